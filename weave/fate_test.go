package weave_test

import (
	"testing"

	"weave/weave"
)

// wrap is a run of bytes and its check, reckoned as the document says it.
func wrap(run ...int) string {
	var told []byte
	sum, weighted := 0, 0
	for i, x := range run {
		told = append(told, byte(x))
		sum += x
		weighted += (i + 1) * x
	}
	return string(append(told, byte(sum%251), byte(weighted%251)))
}

func wantFlying(t *testing.T, r *weave.Room, client int, down bool, want ...string) {
	t.Helper()
	n, e := r.Flying(client, down)
	if n != len(want) || e != weave.OK {
		t.Errorf("Flying(%d, %v) = %d, %d, want %d", client, down, n, e, len(want))
	}
	for i, w := range want {
		if s, _ := r.Peek(client, down, i); s != w {
			t.Errorf("Peek(%d, %v, %d) = %v, want %v", client, down, i, []byte(s), []byte(w))
		}
	}
}

func wantWaits(t *testing.T, r *weave.Room, client, want int) {
	t.Helper()
	if n, e := r.Waits(client); n != want || e != weave.OK {
		t.Errorf("Waits(%d) = %d, %d, want %d", client, n, e, want)
	}
}

// fate is a Fate that is to be OK.
func fate(t *testing.T, r *weave.Room, client int, down bool, n, kind int) {
	t.Helper()
	if e := r.Fate(client, down, n, kind); e != weave.OK {
		t.Fatalf("Fate(%d, %v, %d, %d) = %d", client, down, n, kind, e)
	}
}

func TestSecondExample(t *testing.T) {
	r := newRoom(t, 2, 2)
	r.Put(0, 0, 'a')
	fate(t, r, 0, false, 0, 0)
	wantText(t, r, -1, "a")
	wantFlying(t, r, 0, false)
	wantFlying(t, r, 0, true, "\x02\x01\x03\x04")
	wantFlying(t, r, 1, false)
	wantFlying(t, r, 1, true, wrap(1, 1, 0, 0, 0, 1, 0, 97))
}

func TestThirdExample(t *testing.T) {
	r := newRoom(t, 2, 2)
	r.Put(0, 0, 'a')
	fate(t, r, 0, false, 0, 0)
	r.Put(1, 0, 'b')
	wantText(t, r, 1, "b")
	fate(t, r, 1, true, 0, 0)
	wantText(t, r, 1, "ab")
	wantFlying(t, r, 1, false, wrap(1, 1, 0, 0, 1, 1, 0, 98), wrap(2, 1))
	fate(t, r, 1, false, 0, 0)
	wantText(t, r, -1, "ab")
	wantFlying(t, r, 1, true, wrap(2, 1))
	// Client 0's first message is in this one's context, and the word ahead says that it was taken.
	wantFlying(t, r, 0, true, wrap(2, 1), wrap(1, 1, 1, 1, 1, 1, 1, 98))
	fate(t, r, 0, true, 1, 0)
	wantText(t, r, 0, "ab")
}

func TestFourthExample(t *testing.T) {
	r := newRoom(t, 2, 2)
	r.Put(0, 0, 'a')
	fate(t, r, 0, false, 0, 0)
	wantWaits(t, r, 0, 1)
	fate(t, r, 0, true, 0, 0)
	wantWaits(t, r, 0, 0)
	wantErrno(t, "Put", r.Put(0, 1, 'x'), weave.OK)
	wantErrno(t, "Put", r.Put(0, 1, 'x'), weave.OK)
	wantErrno(t, "Put", r.Put(0, 1, 'x'), weave.ErrWindow)
}

func TestP7ErrorNamedFirst(t *testing.T) {
	r := newRoom(t, 2, 2)
	r.Put(1, 0, 'a')
	fate(t, r, 1, false, 0, 3)
	before := look(r)
	for _, client := range numbers {
		for _, n := range numbers {
			for _, kind := range numbers {
				for _, down := range []bool{false, true} {
					want := weave.OK
					switch {
					case client != 0 && client != 1:
						want = weave.ErrClient
					case client != 1 || down || n != 0:
						want = weave.ErrFlight
					case kind < 0 || kind > 3:
						want = weave.ErrArg
					case kind == 3:
						want = weave.ErrSpoilt
					default:
						continue
					}
					if e := r.Fate(client, down, n, kind); e != want {
						t.Fatalf("Fate(%d, %v, %d, %d) = %d, want %d", client, down, n, kind, e, want)
					}
				}
			}
		}
	}
	if look(r) != before {
		t.Error("a refused Fate changed the room")
	}
}

// threeUp is a room with the messages of a, b and c on the way to the server.
func threeUp(t *testing.T) (*weave.Room, []string) {
	t.Helper()
	r := newRoom(t, 1, 3)
	var told []string
	for i, letter := range []byte("abc") {
		r.Put(0, i, letter)
		told = append(told, wrap(1, i+1, 0, 0, 0, 1, i, int(letter)))
	}
	wantFlying(t, r, 0, false, told...)
	return r, told
}

func TestP7Delivered(t *testing.T) {
	r, told := threeUp(t)
	fate(t, r, 0, false, 0, 0)
	wantFlying(t, r, 0, false, told[1], told[2])
	wantText(t, r, -1, "a")
	wantFlying(t, r, 0, true, wrap(2, 1))
}

func TestP7Lost(t *testing.T) {
	r, told := threeUp(t)
	fate(t, r, 0, false, 1, 1)
	wantFlying(t, r, 0, false, told[0], told[2])
	wantText(t, r, -1, "")
	wantFlying(t, r, 0, true)
	wantWaits(t, r, 0, 3)
}

func TestP7Doubled(t *testing.T) {
	r, told := threeUp(t)
	fate(t, r, 0, false, 1, 2)
	wantFlying(t, r, 0, false, told[0], told[1], told[2], told[1])
	for range 8 {
		fate(t, r, 0, false, 0, 2)
	}
	full := look(r)
	if n, _ := r.Flying(0, false); n != 12 {
		t.Errorf("Flying = %d, want 12", n)
	}
	for n := range 12 {
		wantErrno(t, "a copy for which there is no room", r.Fate(0, false, n, 2), weave.OK)
	}
	if look(r) != full {
		t.Error("a copy for which there is no room changed something")
	}
}

func TestP7Spoilt(t *testing.T) {
	r, told := threeUp(t)
	bad := "\xfe" + told[1][1:]
	fate(t, r, 0, false, 1, 2)
	fate(t, r, 0, false, 1, 3)
	wantFlying(t, r, 0, false, told[0], bad, told[2], told[1])
	fate(t, r, 0, false, 1, 2)
	wantFlying(t, r, 0, false, told[0], bad, told[2], told[1], bad)
	wantErrno(t, "spoiling what is spoilt", r.Fate(0, false, 1, 3), weave.ErrSpoilt)
	wantErrno(t, "spoiling its copy", r.Fate(0, false, 4, 3), weave.ErrSpoilt)
	fate(t, r, 0, false, 4, 2)
	wantErrno(t, "spoiling its copy's copy", r.Fate(0, false, 5, 3), weave.ErrSpoilt)
	// A copy that was made ahead of the spoiling is whole.
	fate(t, r, 0, false, 3, 3)
	wantFlying(t, r, 0, false, told[0], bad, told[2], bad, bad, bad)
}

func TestP7SpoiltWord(t *testing.T) {
	r := newRoom(t, 1, 1)
	r.Put(0, 0, 'a')
	fate(t, r, 0, false, 0, 0)
	fate(t, r, 0, true, 0, 3)
	wantFlying(t, r, 0, true, "\xfd\x01\x03\x04")
	wantErrno(t, "spoiling a spoilt word", r.Fate(0, true, 0, 3), weave.ErrSpoilt)
	fate(t, r, 0, true, 0, 0)
	wantWaits(t, r, 0, 1)
	wantFlying(t, r, 0, true)
	wantFlying(t, r, 0, false)
}

func TestP7SpoiltIsNotTaken(t *testing.T) {
	r, told := threeUp(t)
	fate(t, r, 0, false, 0, 3)
	fate(t, r, 0, false, 0, 0)
	wantFlying(t, r, 0, false, told[1], told[2])
	wantText(t, r, -1, "")
	wantFlying(t, r, 0, true)
}

func TestP7KeptUntilTheNextComes(t *testing.T) {
	for _, c := range []struct {
		order []int // of the messages, by how many are still there
		texts []string
		words []int
	}{
		{[]int{2, 1, 0}, []string{"", "", "abc"}, []int{0, 0, 3}},
		{[]int{2, 0, 0}, []string{"", "a", "abc"}, []int{0, 1, 3}},
		{[]int{1, 1, 0}, []string{"", "", "abc"}, []int{0, 0, 3}},
		{[]int{1, 0, 0}, []string{"", "ab", "abc"}, []int{0, 2, 3}},
		{[]int{0, 1, 0}, []string{"a", "a", "abc"}, []int{1, 1, 3}},
	} {
		r, _ := threeUp(t)
		var words []string
		for i, n := range c.order {
			fate(t, r, 0, false, n, 0)
			wantText(t, r, -1, c.texts[i])
			words = append(words, wrap(2, c.words[i]))
			wantFlying(t, r, 0, true, words...)
		}
	}
}

func TestP7ComesTwice(t *testing.T) {
	r, _ := threeUp(t)
	for n := range 3 {
		fate(t, r, 0, false, n, 2)
		fate(t, r, 0, false, n, 2)
	}
	// c, c, b, a, a, b, b, c, a: copies of what is kept, and then of what is taken.
	for _, n := range []int{2, 6, 1, 0, 1, 1, 1, 1, 0} {
		fate(t, r, 0, false, n, 0)
	}
	wantText(t, r, -1, "abc")
	wantFlying(t, r, 0, true, wrap(2, 0), wrap(2, 0), wrap(2, 0), wrap(2, 3), wrap(2, 3), wrap(2, 3), wrap(2, 3), wrap(2, 3), wrap(2, 3))
}

func TestP7OldWordTellsNothingNew(t *testing.T) {
	r, _ := threeUp(t)
	for range 3 {
		fate(t, r, 0, false, 0, 0)
	}
	wantFlying(t, r, 0, true, wrap(2, 1), wrap(2, 2), wrap(2, 3))
	fate(t, r, 0, true, 1, 0)
	wantWaits(t, r, 0, 1)
	fate(t, r, 0, true, 0, 0)
	wantWaits(t, r, 0, 1)
	fate(t, r, 0, true, 0, 0)
	wantWaits(t, r, 0, 0)
	wantFlying(t, r, 0, false)
}

// TestP7SentForTheFirstTime: what the window held back goes out with what was taken ahead of the delivered message, and ahead of the word.
func TestP7SentForTheFirstTime(t *testing.T) {
	r := newRoom(t, 2, 1)
	for i, letter := range []byte("ab") {
		r.Put(0, i, letter)
		fate(t, r, 0, false, 0, 0)
		fate(t, r, 0, true, 0, 0)
	}
	wantFlying(t, r, 1, true, wrap(1, 1, 0, 0, 0, 1, 0, 'a'))
	fate(t, r, 1, true, 0, 0)
	fate(t, r, 1, false, 0, 1)
	r.Put(1, 1, 'z')
	wantFlying(t, r, 1, false, wrap(1, 1, 1, 1, 1, 1, 1, 'z'))
	fate(t, r, 1, false, 0, 0)
	wantFlying(t, r, 1, true, wrap(1, 2, 0, 0, 0, 1, 1, 'b'), wrap(2, 1))
	wantText(t, r, -1, "abz")
	fate(t, r, 1, true, 0, 0)
	wantText(t, r, 1, "abz")
}

// TestP7MessageTellsWhatWasTaken: a message says it as a word does, also one that is kept or was taken already.
func TestP7MessageTellsWhatWasTaken(t *testing.T) {
	r := newRoom(t, 2, 2)
	r.Put(0, 0, 'a')
	fate(t, r, 0, false, 0, 0)
	fate(t, r, 0, true, 0, 1)
	r.Put(1, 0, 'b')
	r.Put(1, 1, 'c')
	fate(t, r, 1, false, 1, 0)
	wantWaits(t, r, 0, 1)
	fate(t, r, 1, false, 0, 0)
	// Both messages on line 0 say that client 0's first was taken; the second comes first.
	wantFlying(t, r, 0, true, wrap(1, 1, 1, 1, 1, 1, 1, 'b'), wrap(1, 2, 1, 1, 1, 1, 2, 'c'))
	fate(t, r, 0, true, 1, 0)
	wantWaits(t, r, 0, 0)
	wantText(t, r, 0, "a")
	wantFlying(t, r, 0, false, wrap(2, 0))
	fate(t, r, 0, true, 0, 0)
	wantText(t, r, 0, "abc")
}

func TestP7ServerTellsEachOther(t *testing.T) {
	r := newRoom(t, 4, 1)
	r.Put(2, 0, 'q')
	fate(t, r, 2, false, 0, 0)
	for _, c := range []int{0, 1, 3} {
		wantFlying(t, r, c, true, wrap(1, 1, 0, 0, 2, 1, 0, 'q'))
		fate(t, r, c, true, 0, 0)
		wantText(t, r, c, "q")
	}
	wantFlying(t, r, 2, true, wrap(2, 1))
}

// TestP7NothingIsToldToo: both cut one letter: the second cut comes to the others as nothing, with its client.
func TestP7NothingIsToldToo(t *testing.T) {
	r := newRoom(t, 3, 2)
	r.Put(0, 0, 'a')
	fate(t, r, 0, false, 0, 0)
	for _, c := range []int{1, 2} {
		fate(t, r, c, true, 0, 0)
		fate(t, r, c, false, 0, 0)
		r.Cut(c, 0)
	}
	fate(t, r, 1, false, 0, 0)
	fate(t, r, 2, false, 0, 0)
	wantText(t, r, -1, "")
	wantFlying(t, r, 1, true, wrap(2, 1), wrap(1, 2, 1, 1, 2, 0, 0, 0))
	wantFlying(t, r, 0, true, wrap(2, 1), wrap(1, 1, 1, 1, 1, 2, 0, 0), wrap(1, 2, 1, 1, 2, 0, 0, 0))
	for range 3 {
		fate(t, r, 0, true, 0, 0)
	}
	wantText(t, r, 0, "")
}

func TestP8NoClient(t *testing.T) {
	r := newRoom(t, 2, 2)
	r.Put(0, 0, 'a')
	before := look(r)
	for _, client := range numbers {
		for _, server := range []bool{false, true} {
			if client != 0 && client != 1 {
				wantErrno(t, "Tick of no client", r.Tick(client, server), weave.ErrClient)
			}
		}
	}
	// These ends have neither made nor taken anything.
	wantErrno(t, "Tick", r.Tick(0, true), weave.OK)
	wantErrno(t, "Tick", r.Tick(1, false), weave.OK)
	wantErrno(t, "Tick", r.Tick(1, true), weave.OK)
	if look(r) != before {
		t.Error("ticks of which there is nothing to send sent something")
	}
}

func TestP8SendsAgain(t *testing.T) {
	r, told := threeUp(t)
	for range 3 {
		fate(t, r, 0, false, 0, 1)
	}
	wantErrno(t, "Tick", r.Tick(0, false), weave.OK)
	wantFlying(t, r, 0, false, told...)
	// Of what is known to be taken nothing is sent again.
	fate(t, r, 0, false, 0, 0)
	fate(t, r, 0, true, 0, 0)
	r.Tick(0, false)
	wantFlying(t, r, 0, false, told[1], told[2], told[1], told[2])
}

func TestP8NotAboveTheWindow(t *testing.T) {
	r := newRoom(t, 2, 2)
	for i, letter := range []byte("abc") {
		r.Put(0, i, letter)
		fate(t, r, 0, false, 0, 0)
		fate(t, r, 0, true, 0, 0)
	}
	a, b := wrap(1, 1, 0, 0, 0, 1, 0, 'a'), wrap(1, 2, 0, 0, 0, 1, 1, 'b')
	wantFlying(t, r, 1, true, a, b)
	r.Tick(1, true)
	wantFlying(t, r, 1, true, a, b, a, b)
}

func TestP8WithWhatIsTakenByNow(t *testing.T) {
	r := newRoom(t, 2, 2)
	r.Put(1, 0, 'b')
	r.Put(0, 0, 'a')
	fate(t, r, 0, false, 0, 0)
	fate(t, r, 1, true, 0, 0)
	r.Tick(1, false)
	wantFlying(t, r, 1, false, wrap(1, 1, 0, 0, 1, 1, 0, 'b'), wrap(2, 1), wrap(1, 1, 0, 1, 1, 1, 0, 'b'))
}

func TestP8WordIfThereIsNoMessage(t *testing.T) {
	r := newRoom(t, 2, 2)
	r.Put(0, 0, 'a')
	fate(t, r, 0, false, 0, 0)
	fate(t, r, 0, true, 0, 0)
	r.Tick(0, true)
	wantFlying(t, r, 0, true, wrap(2, 1))
	// This end knows all to be taken, and has taken nothing.
	r.Tick(0, false)
	wantFlying(t, r, 0, false)
	fate(t, r, 1, true, 0, 0)
	fate(t, r, 1, false, 0, 0)
	r.Tick(1, true)
	wantFlying(t, r, 1, true)
	r.Tick(1, false)
	wantFlying(t, r, 1, false, wrap(2, 1))
}

func TestP8AtMostMaxFlying(t *testing.T) {
	r, told := threeUp(t)
	fate(t, r, 0, false, 2, 1)
	for range 5 {
		r.Tick(0, false)
	}
	wantFlying(t, r, 0, false, told[0], told[1], told[0], told[1], told[2], told[0], told[1], told[2], told[0], told[1], told[2], told[0])
}
