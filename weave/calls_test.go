package weave_test

import (
	"math"
	"testing"

	"weave/weave"
)

// numbers are ordinary numbers, the edges of every limit, and the far ends of int.
var numbers = []int{math.MinInt, math.MinInt + 1, -256, -2, -1, 0, 1, 2, 3, 4, 5, 11, 12, 13, 59, 60, 61, 255, 256, math.MaxInt - 1, math.MaxInt}

func newRoom(t *testing.T, clients, window int) *weave.Room {
	t.Helper()
	r, e := weave.New(clients, window)
	if r == nil || e != weave.OK {
		t.Fatalf("New(%d, %d) = %v, %d", clients, window, r, e)
	}
	return r
}

func wantText(t *testing.T, r *weave.Room, client int, want string) {
	t.Helper()
	if s, e := r.Read(client); s != want || e != weave.OK {
		t.Errorf("Read(%d) = %q, %d, want %q", client, s, e, want)
	}
}

func wantErrno(t *testing.T, what string, got, want weave.Errno) {
	t.Helper()
	if got != want {
		t.Errorf("%s = %d, want %d", what, got, want)
	}
}

// seen is all that the calls tell of a room.
type seen struct {
	texts  [5]string
	waits  [4]int
	flying [4][2]int
	bytes  [4][2][12]string
}

func look(r *weave.Room) seen {
	var s seen
	for c := -1; c < 4; c++ {
		s.texts[c+1], _ = r.Read(c)
	}
	for c := range 4 {
		s.waits[c], _ = r.Waits(c)
		for way, down := range []bool{false, true} {
			s.flying[c][way], _ = r.Flying(c, down)
			for n := range 12 {
				s.bytes[c][way][n], _ = r.Peek(c, down, n)
			}
		}
	}
	return s
}

func TestP1NoNumberPanics(t *testing.T) {
	for _, a := range numbers {
		for _, b := range numbers {
			weave.New(a, b)
			r := newRoom(t, 2, 2)
			r.Put(a, b, 'x')
			r.Cut(a, b)
			r.Read(a)
			r.Waits(a)
			for _, down := range []bool{false, true} {
				r.Flying(a, down)
				r.Peek(a, down, b)
				r.Tick(a, down)
				for _, kind := range numbers {
					r.Fate(a, down, b, kind)
				}
			}
		}
	}
}

func TestP1RefusalChangesNothing(t *testing.T) {
	r := newRoom(t, 2, 2)
	r.Put(0, 0, 'a')
	r.Put(1, 0, 'b')
	r.Put(1, 1, 'c')
	before := look(r)
	for _, client := range numbers {
		for _, place := range numbers {
			for _, letter := range []byte{0, 32, 33, 126, 127, 255} {
				// These would be done.
				if client == 0 && place >= 0 && place <= 1 && letter >= 33 && letter <= 126 {
					continue
				}
				if e := r.Put(client, place, letter); e == weave.OK {
					t.Fatalf("Put(%d, %d, %d) is not refused", client, place, letter)
				}
			}
			if client == 0 && place == 0 {
				continue
			}
			if e := r.Cut(client, place); e == weave.OK {
				t.Fatalf("Cut(%d, %d) is not refused", client, place)
			}
			if look(r) != before {
				t.Fatalf("a refusal at client %d, place %d changed the room", client, place)
			}
		}
	}
}

func TestP1AskingChangesNothing(t *testing.T) {
	r := newRoom(t, 2, 2)
	r.Put(0, 0, 'a')
	before := look(r)
	if look(r) != before {
		t.Error("a look at the room changed it")
	}
}

func TestP1ErrorNamedFirst(t *testing.T) {
	full := newRoom(t, 1, 1)
	full.Put(0, 0, 'a')
	for _, c := range []struct {
		client, place int
		letter        byte
		put, cut      weave.Errno
	}{
		{1, -1, 0, weave.ErrClient, weave.ErrClient},
		{-1, 0, 'x', weave.ErrClient, weave.ErrClient},
		{0, 2, 0, weave.ErrPlace, weave.ErrPlace},
		{0, -1, 0, weave.ErrPlace, weave.ErrPlace},
		{0, 1, 0, weave.ErrLetter, weave.ErrPlace},
		{0, 0, 127, weave.ErrLetter, weave.ErrWindow},
		{0, 0, 'x', weave.ErrWindow, weave.ErrWindow},
	} {
		wantErrno(t, "Put", full.Put(c.client, c.place, c.letter), c.put)
		wantErrno(t, "Cut", full.Cut(c.client, c.place), c.cut)
	}
	if s, e := full.Peek(1, false, 9); s != "" || e != weave.ErrClient {
		t.Errorf("Peek of no client's line, no datagram = %q, %d", s, e)
	}
}

func TestP2RoomsAreApart(t *testing.T) {
	alone, one, other := newRoom(t, 2, 3), newRoom(t, 2, 3), newRoom(t, 2, 3)
	for i, letter := range []byte("xyz") {
		alone.Put(1, i, letter)
		other.Put(0, 0, '!')
		one.Put(1, i, letter)
		other.Cut(0, 0)
		other.Put(1, 0, letter+1)
	}
	if look(one) != look(alone) {
		t.Error("what was done with another room shows")
	}
	wantText(t, one, 0, "")
	wantText(t, one, 1, "xyz")
}

func TestP3New(t *testing.T) {
	for _, clients := range numbers {
		for _, window := range numbers {
			want := weave.ErrArg
			if clients >= 1 && clients <= 4 && window >= 1 && window <= 4 {
				want = weave.OK
			}
			r, e := weave.New(clients, window)
			if e != want || (r == nil) != (want != weave.OK) {
				t.Errorf("New(%d, %d) = %v, %d, want %d", clients, window, r, e, want)
			}
		}
	}
}

func TestP3NewRoomIsEmpty(t *testing.T) {
	for clients := 1; clients <= 4; clients++ {
		r := newRoom(t, clients, 1)
		if look(r) != (seen{}) {
			t.Errorf("a new room of %d is not empty", clients)
		}
		for c := -1; c < clients; c++ {
			wantText(t, r, c, "")
		}
		if _, e := r.Read(clients); e != weave.ErrClient {
			t.Errorf("a room of %d has a client %d", clients, clients)
		}
	}
}

func TestP4PutAndCut(t *testing.T) {
	r := newRoom(t, 3, 4)
	wantErrno(t, "Put at the start", r.Put(2, 0, 'b'), weave.OK)
	wantText(t, r, 2, "b")
	wantErrno(t, "Put ahead", r.Put(2, 0, 'a'), weave.OK)
	wantText(t, r, 2, "ab")
	wantErrno(t, "Put between", r.Put(2, 1, 'c'), weave.OK)
	wantText(t, r, 2, "acb")
	wantErrno(t, "Cut between", r.Cut(2, 1), weave.OK)
	wantText(t, r, 2, "ab")
	for _, c := range []int{-1, 0, 1} {
		wantText(t, r, c, "")
	}
}

func TestP4CutAtBothEnds(t *testing.T) {
	r := newRoom(t, 1, 4)
	r.Put(0, 0, 'a')
	r.Put(0, 1, 'b')
	wantErrno(t, "Cut of the last", r.Cut(0, 1), weave.OK)
	wantText(t, r, 0, "a")
	wantErrno(t, "Cut of the first", r.Cut(0, 0), weave.OK)
	wantText(t, r, 0, "")
}

func TestP4Places(t *testing.T) {
	for _, place := range numbers {
		r := newRoom(t, 1, 4)
		r.Put(0, 0, 'a')
		r.Put(0, 1, 'b')
		put, cut := weave.ErrPlace, weave.ErrPlace
		if place >= 0 && place <= 2 {
			put = weave.OK
		}
		if place >= 0 && place <= 1 {
			cut = weave.OK
		}
		wantErrno(t, "Cut", r.Cut(0, place), cut)
		if cut == weave.OK {
			r = newRoom(t, 1, 4)
			r.Put(0, 0, 'a')
			r.Put(0, 1, 'b')
		}
		wantErrno(t, "Put", r.Put(0, place, 'x'), put)
	}
}

func TestP4Letters(t *testing.T) {
	for b := range 256 {
		want := weave.ErrLetter
		if b >= 33 && b <= 126 {
			want = weave.OK
		}
		wantErrno(t, "Put", newRoom(t, 1, 1).Put(0, 0, byte(b)), want)
	}
}

func TestP4Window(t *testing.T) {
	for window := 1; window <= 4; window++ {
		r := newRoom(t, 2, window)
		for i := range window {
			wantErrno(t, "Put within the window", r.Put(0, i, 'a'), weave.OK)
		}
		wantErrno(t, "Put above the window", r.Put(0, 0, 'a'), weave.ErrWindow)
		wantErrno(t, "Cut above the window", r.Cut(0, 0), weave.ErrWindow)
		wantErrno(t, "Put of another client", r.Put(1, 0, 'a'), weave.OK)
	}
}

func TestP5ReadAndWaits(t *testing.T) {
	r := newRoom(t, 2, 3)
	for i := range 3 {
		if n, e := r.Waits(0); n != i || e != weave.OK {
			t.Errorf("Waits(0) = %d, %d, want %d", n, e, i)
		}
		r.Put(0, i, 'a'+byte(i))
	}
	wantText(t, r, 0, "abc")
	for c, want := range []int{3, 0} {
		if n, e := r.Waits(c); n != want || e != weave.OK {
			t.Errorf("Waits(%d) = %d, %d, want %d", c, n, e, want)
		}
	}
	for _, c := range numbers {
		if c == 0 || c == 1 {
			continue
		}
		if n, e := r.Waits(c); n != 0 || e != weave.ErrClient {
			t.Errorf("Waits(%d) = %d, %d", c, n, e)
		}
		if s, e := r.Read(c); c != -1 && (s != "" || e != weave.ErrClient) {
			t.Errorf("Read(%d) = %q, %d", c, s, e)
		}
	}
}

func TestP6Flying(t *testing.T) {
	r := newRoom(t, 2, 3)
	r.Put(1, 0, 'a')
	r.Cut(1, 0)
	for _, c := range []struct {
		client int
		down   bool
		want   int
	}{{0, false, 0}, {0, true, 0}, {1, false, 2}, {1, true, 0}} {
		if n, e := r.Flying(c.client, c.down); n != c.want || e != weave.OK {
			t.Errorf("Flying(%d, %v) = %d, %d, want %d", c.client, c.down, n, e, c.want)
		}
	}
	for _, c := range numbers {
		for _, down := range []bool{false, true} {
			if n, e := r.Flying(c, down); c != 0 && c != 1 && (n != 0 || e != weave.ErrClient) {
				t.Errorf("Flying(%d, %v) = %d, %d", c, down, n, e)
			}
			if s, e := r.Peek(c, down, 0); c != 0 && c != 1 && (s != "" || e != weave.ErrClient) {
				t.Errorf("Peek(%d, %v, 0) = %q, %d", c, down, s, e)
			}
		}
	}
}

func TestP6Peek(t *testing.T) {
	r := newRoom(t, 4, 3)
	r.Put(3, 0, '~')
	r.Put(3, 1, '!')
	r.Cut(3, 0)
	// The second sums: 1 + 2 + 15 + 6 + 1008 = 1032, 1 + 4 + 15 + 6 + 7 + 264 = 297, 1 + 6 + 15 + 12 = 34, modulo 251.
	for n, want := range []string{
		"\x01\x01\x00\x00\x03\x01\x00~\x84\x1c",
		"\x01\x02\x00\x00\x03\x01\x01!\x29\x2e",
		"\x01\x03\x00\x00\x03\x02\x00\x00\x09\x22",
	} {
		if s, e := r.Peek(3, false, n); s != want || e != weave.OK {
			t.Errorf("Peek(3, false, %d) = %q, %d, want %q", n, s, e, want)
		}
	}
	for _, n := range numbers {
		if s, e := r.Peek(3, true, n); s != "" || e != weave.ErrFlight {
			t.Errorf("Peek(3, true, %d) = %q, %d", n, s, e)
		}
		if s, e := r.Peek(3, false, n); (n < 0 || n > 2) && (s != "" || e != weave.ErrFlight) {
			t.Errorf("Peek(3, false, %d) = %q, %d", n, s, e)
		}
	}
}

func TestFirstExample(t *testing.T) {
	r := newRoom(t, 2, 2)
	wantErrno(t, "Put", r.Put(0, 0, 'a'), weave.OK)
	wantText(t, r, 0, "a")
	wantText(t, r, -1, "")
	wantText(t, r, 1, "")
	if n, e := r.Waits(0); n != 1 || e != weave.OK {
		t.Errorf("Waits(0) = %d, %d", n, e)
	}
	if n, e := r.Flying(0, false); n != 1 || e != weave.OK {
		t.Errorf("Flying(0, false) = %d, %d", n, e)
	}
	want := string([]byte{1, 1, 0, 0, 0, 1, 0, 97, 100, 32})
	if s, e := r.Peek(0, false, 0); s != want || e != weave.OK {
		t.Errorf("Peek(0, false, 0) = %q, %d, want %q", s, e, want)
	}
}
