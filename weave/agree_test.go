package weave_test

import (
	"slices"
	"strings"
	"testing"

	"weave/weave"
)

// crowd is a room of clients who put letters of which there is only one each, so that it can be told, without any turning, which letters must be left at last: those that were put and that nobody cut.
type crowd struct {
	t       *testing.T
	room    *weave.Room
	clients int
	window  int
	dice    dice
	made    [4]int
	put     string
	cut     string
}

func newCrowd(t *testing.T, clients, window int, seed uint64) *crowd {
	t.Helper()
	return &crowd{t: t, room: newRoom(t, clients, window), clients: clients, window: window, dice: dice(seed)}
}

// textOf is a client's text; of -1 the server's.
func (c *crowd) textOf(client int) string {
	s, _ := c.room.Read(client)
	return s
}

// refusal is the one that P4 names, at a place of the text and with a letter: any other is a fault.
func (c *crowd) refusal(client int, putting bool) weave.Errno {
	waits, _ := c.room.Waits(client)
	switch {
	case waits >= c.window:
		return weave.ErrWindow
	case c.made[client] >= 60, putting && len(c.textOf(client)) >= 60:
		return weave.ErrMany
	}
	return weave.OK
}

func (c *crowd) putAt(client, place int) weave.Errno {
	c.t.Helper()
	letter := byte(33 + len(c.put))
	want := c.refusal(client, true)
	got := c.room.Put(client, place, letter)
	wantErrno(c.t, "Put", got, want)
	if got == weave.OK {
		c.made[client]++
		c.put += string(rune(letter))
	}
	c.noneTooLong()
	return got
}

func (c *crowd) cutAt(client, place int) weave.Errno {
	c.t.Helper()
	letter := c.textOf(client)[place]
	want := c.refusal(client, false)
	got := c.room.Cut(client, place)
	wantErrno(c.t, "Cut", got, want)
	if got == weave.OK {
		c.made[client]++
		c.cut += string(rune(letter))
	}
	return got
}

// noneTooLong: a text is never longer than what was put in all.
func (c *crowd) noneTooLong() {
	c.t.Helper()
	for client := -1; client < c.clients; client++ {
		if n := len(c.textOf(client)); n > len(c.put) {
			c.t.Fatalf("%d letters were put, and the text of %d has %d", len(c.put), client, n)
		}
	}
}

// change has some client put or cut, as long as there are letters that nobody has put.
func (c *crowd) change() {
	c.t.Helper()
	client := c.dice.below(c.clients)
	length := len(c.textOf(client))
	switch {
	case len(c.put) < 94 && (length == 0 || c.dice.below(3) > 0):
		c.putAt(client, c.dice.below(length+1))
	case length > 0:
		c.cutAt(client, c.dice.below(length))
	}
}

// disturb has something befall some datagram: in how many of ten cases it is no delivery, bad says.
func (c *crowd) disturb(bad int) {
	c.t.Helper()
	client, down := c.dice.below(c.clients), c.dice.below(2) == 0
	n, _ := c.room.Flying(client, down)
	if n == 0 {
		return
	}
	kind := 0
	if c.dice.below(10) < bad {
		kind = 1 + c.dice.below(3)
	}
	c.room.Fate(client, down, c.dice.below(n), kind)
	c.noneTooLong()
}

func (c *crowd) step(bad int) {
	c.t.Helper()
	switch c.dice.below(5) {
	case 0, 1:
		c.change()
	case 2:
		c.room.Tick(c.dice.below(c.clients), c.dice.below(2) == 0)
	default:
		c.disturb(bad)
	}
}

func (c *crowd) everyWay(do func(client int, down bool)) {
	for client := range c.clients {
		do(client, false)
		do(client, true)
	}
}

func (c *crowd) tickAll() {
	c.everyWay(func(client int, down bool) { c.room.Tick(client, down) })
}

// deliverAll delivers what flies, in any order, until nothing does.
func (c *crowd) deliverAll() {
	c.t.Helper()
	for range 10000 {
		moved := false
		c.everyWay(func(client int, down bool) {
			if n, _ := c.room.Flying(client, down); n > 0 {
				moved = true
				c.room.Fate(client, down, c.dice.below(n), 0)
				c.noneTooLong()
			}
		})
		if !moved {
			return
		}
	}
	c.t.Fatal("what flies has no end")
}

// allSame: all have one text, and nobody waits.
func (c *crowd) allSame() bool {
	for client := range c.clients {
		if n, _ := c.room.Waits(client); n > 0 || c.textOf(client) != c.textOf(-1) {
			return false
		}
	}
	return true
}

// nothingIsLeft: each end has only to say what it took, and nothing changes by that.
func (c *crowd) nothingIsLeft() bool {
	before := look(c.room)
	c.tickAll()
	only := true
	c.everyWay(func(client int, down bool) {
		n, _ := c.room.Flying(client, down)
		s, _ := c.room.Peek(client, down, 0)
		only = only && (n == 0 || n == 1 && s[0] == 2)
	})
	c.deliverAll()
	return only && look(c.room) == before
}

// settle ticks all ends and delivers all that flies, until all texts are the same, nobody waits, and nothing more changes.
func (c *crowd) settle() string {
	c.t.Helper()
	for range 50 {
		c.tickAll()
		c.deliverAll()
		if c.allSame() && c.nothingIsLeft() {
			c.rightLetters()
			return c.textOf(-1)
		}
	}
	c.t.Fatalf("behind 50 ticks of all ends: %q", look(c.room).texts)
	return ""
}

// rightLetters: what was put and never cut is there, and nothing else.
func (c *crowd) rightLetters() {
	c.t.Helper()
	var want []byte
	for i := range len(c.put) {
		if strings.IndexByte(c.cut, c.put[i]) < 0 {
			want = append(want, c.put[i])
		}
	}
	got := []byte(c.textOf(-1))
	slices.Sort(got)
	if string(got) != string(want) {
		c.t.Fatalf("of the letters %q, of which %q were cut, %q are left", c.put, c.cut, got)
	}
}

// TestExamplesInOneRoom: the document's four examples follow each other.
func TestExamplesInOneRoom(t *testing.T) {
	r := newRoom(t, 2, 2)
	wantErrno(t, "Put", r.Put(0, 0, 'a'), weave.OK)
	wantText(t, r, 0, "a")
	wantText(t, r, -1, "")
	wantText(t, r, 1, "")
	wantWaits(t, r, 0, 1)
	wantFlying(t, r, 0, false, "\x01\x01\x00\x00\x00\x01\x00a\x64\x20")

	fate(t, r, 0, false, 0, 0)
	wantText(t, r, -1, "a")
	wantFlying(t, r, 0, true, "\x02\x01\x03\x04")
	wantFlying(t, r, 1, true, "\x01\x01\x00\x00\x00\x01\x00a\x64\x20")

	wantErrno(t, "Put", r.Put(1, 0, 'b'), weave.OK)
	wantText(t, r, 1, "b")
	fate(t, r, 1, true, 0, 0)
	wantText(t, r, 1, "ab")
	fate(t, r, 1, false, 0, 0)
	wantText(t, r, -1, "ab")

	wantWaits(t, r, 0, 1)
	fate(t, r, 0, true, 0, 0)
	wantWaits(t, r, 0, 0)
	wantErrno(t, "Put", r.Put(0, 1, 'x'), weave.OK)
	wantErrno(t, "Put", r.Put(0, 1, 'x'), weave.OK)
	wantErrno(t, "Put", r.Put(0, 1, 'x'), weave.ErrWindow)

	c := crowd{t: t, room: r, clients: 2, window: 2, put: "abxx"}
	c.deliverAll()
	for client := -1; client < 2; client++ {
		wantText(t, r, client, "axxb")
	}
}

// TestP9AllAgreeAtLast: several put and cut at once, on lines from good to bad.
func TestP9AllAgreeAtLast(t *testing.T) {
	for clients := 1; clients <= 4; clients++ {
		for window := 1; window <= 4; window++ {
			for _, bad := range []int{0, 3, 6, 9} {
				for seed := range uint64(5) {
					c := newCrowd(t, clients, window, seed*997+uint64(bad))
					for range 3 {
						for range 100 {
							c.step(bad)
						}
						c.settle()
					}
				}
			}
		}
	}
}

// TestP9FromAnyState: whatever befell the lines last, all is the same at last.
func TestP9FromAnyState(t *testing.T) {
	allThatFlies := func(c *crowd, kind int) {
		c.everyWay(func(client int, down bool) {
			flying, _ := c.room.Flying(client, down)
			for n := range flying {
				c.room.Fate(client, down, flying-1-n, kind)
			}
		})
	}
	for name, befall := range map[string]func(c *crowd){
		"all is lost":   func(c *crowd) { allThatFlies(c, 1) },
		"all is spoilt": func(c *crowd) { allThatFlies(c, 3) },
		"all is doubled": func(c *crowd) {
			for range 4 {
				allThatFlies(c, 2)
			}
		},
		"the lines are full of what is spoilt": func(c *crowd) {
			allThatFlies(c, 3)
			for range 12 {
				allThatFlies(c, 2)
			}
		},
		"the lines are full of what ticks sent": func(c *crowd) {
			for range 13 {
				c.tickAll()
			}
		},
		"the last comes first": func(c *crowd) { allThatFlies(c, 0) },
		"the first is lost, the others come": func(c *crowd) {
			c.everyWay(func(client int, down bool) { c.room.Fate(client, down, 0, 1) })
			allThatFlies(c, 0)
		},
		"nobody hears the server": func(c *crowd) {
			for range 200 {
				c.change()
				for client := range c.clients {
					c.room.Fate(client, false, 0, 0)
					c.room.Fate(client, true, 0, 1)
				}
			}
		},
		"only one hears the server": func(c *crowd) {
			for range 200 {
				c.change()
				for client := range c.clients {
					c.room.Fate(client, false, 0, 0)
				}
				c.room.Fate(0, true, 0, 0)
			}
		},
	} {
		t.Run(name, func(t *testing.T) {
			for seed := range uint64(30) {
				c := newCrowd(t, 1+int(seed%4), 1+int(seed/4%4), seed)
				for range 3 {
					for range 40 {
						c.step(2)
					}
					befall(c)
					c.settle()
				}
			}
		})
	}
}

// deed is a put or a cut at some place.
type deed struct {
	cut   bool
	place int
}

// deeds are all that may be done to a text of some length.
func deeds(length int) []deed {
	var all []deed
	for place := range length + 1 {
		all = append(all, deed{false, place})
	}
	for place := range length {
		all = append(all, deed{true, place})
	}
	return all
}

// after is how long a text is behind a deed.
func (d deed) after(length int) int {
	if d.cut {
		return length - 1
	}
	return length + 1
}

func (c *crowd) do(client int, d deed) {
	c.t.Helper()
	if d.cut {
		c.cutAt(client, d.place)
	} else {
		c.putAt(client, d.place)
	}
}

// withText is a crowd who all have a text of some length.
func withText(t *testing.T, clients, window, length int) *crowd {
	t.Helper()
	c := newCrowd(t, clients, window, 0)
	for place := range length {
		c.putAt(clients-1, place)
		c.deliverAll()
	}
	return c
}

// TestP9ThreeAtOnce: each of three does one thing, and the server hears of them in any order.
func TestP9ThreeAtOnce(t *testing.T) {
	orders := [][3]int{{0, 1, 2}, {0, 2, 1}, {1, 0, 2}, {1, 2, 0}, {2, 0, 1}, {2, 1, 0}}
	for length := range 4 {
		all := deeds(length)
		for _, x := range all {
			for _, y := range all {
				for _, z := range all {
					for _, order := range orders {
						c := withText(t, 3, 1, length)
						for client, d := range []deed{x, y, z} {
							c.do(client, d)
						}
						for _, client := range order {
							fate(t, c.room, client, false, 0, 0)
						}
						c.settle()
					}
				}
			}
		}
	}
}

// TestP9TwoAtOnce: each of two does two things that the other has not heard of. In whatever order the server hears of them, it makes one text.
func TestP9TwoAtOnce(t *testing.T) {
	orders := [][4]int{{0, 0, 1, 1}, {0, 1, 0, 1}, {0, 1, 1, 0}, {1, 0, 0, 1}, {1, 0, 1, 0}, {1, 1, 0, 0}}
	const length = 2
	var pairs [][2]deed
	for _, first := range deeds(length) {
		for _, second := range deeds(first.after(length)) {
			pairs = append(pairs, [2]deed{first, second})
		}
	}
	for _, x := range pairs {
		for _, y := range pairs {
			var texts []string
			for _, order := range orders {
				c := withText(t, 2, 2, length)
				for i := range 2 {
					c.do(0, x[i])
					c.do(1, y[i])
				}
				for _, client := range order {
					fate(t, c.room, client, false, 0, 0)
				}
				texts = append(texts, c.settle())
			}
			if len(slices.Compact(texts)) != 1 {
				t.Fatalf("%v and %v make %q", x, y, texts)
			}
		}
	}
}

// heardByServer has a client put letters, each of which the server takes and nobody else hears of.
func heardByServer(t *testing.T, r *weave.Room, client, letters int) {
	t.Helper()
	for place := range letters {
		wantErrno(t, "Put", r.Put(client, place, 'a'+byte(client)), weave.OK)
		fate(t, r, client, false, 0, 0)
		down, _ := r.Flying(client, true)
		fate(t, r, client, true, down-1, 0)
	}
}

// TestP9LongestText: each puts all that it may, not hearing of the others, and the text is longer than one client could make it.
func TestP9LongestText(t *testing.T) {
	r := newRoom(t, 4, 4)
	for client := range 4 {
		heardByServer(t, r, client, 60)
		wantText(t, r, client, strings.Repeat(string(rune('a'+client)), 60))
	}
	c := crowd{t: t, room: r, clients: 4, window: 4, put: strings.Repeat("abcd", 60)}
	for range 3 {
		c.tickAll()
		c.deliverAll()
	}
	if !c.allSame() || !c.nothingIsLeft() {
		t.Fatalf("the texts are %q", look(r).texts)
	}
	for _, letter := range []string{"a", "b", "c", "d"} {
		if n := strings.Count(c.textOf(-1), letter); n != 60 {
			t.Errorf("60 times %q was put, and %d are left", letter, n)
		}
	}
	if n := len(c.textOf(-1)); n != 240 {
		t.Errorf("240 letters were put, and the text has %d", n)
	}
}

// TestP9RefusedOnlyAsP4Says: a text that others have made longer than MaxText, and full lines, stand in the way of no Cut, and of no Put that P4 lets pass.
func TestP9RefusedOnlyAsP4Says(t *testing.T) {
	r := newRoom(t, 3, 4)
	heardByServer(t, r, 0, 31)
	heardByServer(t, r, 1, 30)
	c := crowd{t: t, room: r, clients: 3, window: 4, put: strings.Repeat("a", 31) + strings.Repeat("b", 30)}
	c.deliverAll()
	if n := len(c.textOf(2)); n != 61 {
		t.Fatalf("61 letters were put, and client 2 has %d", n)
	}
	for range 13 {
		c.tickAll()
	}
	wantErrno(t, "Put behind 61 letters", r.Put(2, 61, 'x'), weave.ErrMany)
	wantErrno(t, "Cut of 61 letters", r.Cut(2, 60), weave.OK)
	wantErrno(t, "Put to 60 letters", r.Put(2, 0, 'x'), weave.ErrMany)
	wantErrno(t, "Cut of 60 letters", r.Cut(2, 0), weave.OK)
	wantErrno(t, "Put to 59 letters", r.Put(2, 30, 'x'), weave.OK)
	c.put += "x"
	wantErrno(t, "Put to 60 letters", r.Put(2, 30, 'x'), weave.ErrMany)
	wantErrno(t, "Cut of 60 letters", r.Cut(2, 59), weave.OK)
	wantErrno(t, "Put, the window full", r.Put(2, 0, 'x'), weave.ErrWindow)
	wantErrno(t, "Cut, the window full", r.Cut(2, 0), weave.ErrWindow)
	for range 3 {
		c.deliverAll()
		c.tickAll()
	}
	c.deliverAll()
	if !c.allSame() || !c.nothingIsLeft() || len(c.textOf(-1)) != 59 {
		t.Errorf("the texts are %q", look(r).texts)
	}
}
