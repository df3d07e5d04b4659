package weave

import (
	"reflect"
	"testing"
)

// oneMade is a room whose client has made a message that is lost, so that what arrives may tell something.
func oneMade() *Room {
	r, _ := New(2, 2)
	r.Put(0, 0, 'a')
	r.Fate(0, false, 0, 1)
	return r
}

func TestDatagramOfNoFormDoesNothing(t *testing.T) {
	good := write(1, 1, 0, 1, 1, 1, 0, 'b')
	for _, d := range []datagram{
		"",
		"\x02",
		"\x02\x01",
		"\x02\x01\x03",
		"\x02\x01\x03\x05",
		"\x02\x01\x04\x04",
		"\x02\x02\x03\x04",
		"\x02\x01\x03\x04\x00",
		write(2),
		write(2, 1, 0),
		write(0, 1),
		write(1, 1),
		write(3, 1),
		write(2, 1, 0, 1, 1, 1, 0, 'b'),
		write(0, 1, 0, 1, 1, 1, 0, 'b'),
		write(1, 1, 0, 1, 1, 1, 0),
		write(1, 1, 0, 1, 1, 1, 0, 'b', 0),
		good[:9],
		good + "\x00",
		good.spoil(),
		good[:7] + "c" + good[8:],
		good[:8] + "\x00" + good[9:],
		good[:9] + "\x00",
	} {
		r := oneMade()
		r.arrive(side{}, d)
		if !reflect.DeepEqual(r, oneMade()) {
			t.Errorf("%q did something", d)
		}
	}
	r := oneMade()
	r.arrive(side{}, good)
	if s, _ := r.Read(0); s != "ab" {
		t.Errorf("the good one made %q", s)
	}
}

func TestMoreTakenThanMadeIsNotKnown(t *testing.T) {
	for taken, want := range []int{0, 1, 0, 0} {
		r := oneMade()
		r.arrive(side{}, word(taken))
		if e := r.ends[side{}]; e.known != want || e.made() != 1 {
			t.Errorf("%d of %d is known from a word of %d taken", e.known, e.made(), taken)
		}
	}
}

func TestKeptIfAheadByLessThanTheWindow(t *testing.T) {
	for window := 1; window <= 4; window++ {
		for taken := range 3 {
			for number := 1; number < 10; number++ {
				r, _ := New(1, window)
				e := r.ends[side{server: true}]
				e.taken = taken
				r.arrive(side{server: true}, message{number: number}.datagram(0))
				_, kept := e.kept[number]
				if want := number > taken+1 && number-(taken+1) < window; kept != want {
					t.Errorf("window %d, %d taken: %d kept: %v", window, taken, number, kept)
				}
				if next := number == taken+1; next != (e.taken == taken+1) {
					t.Errorf("window %d, %d taken: behind %d %d are", window, taken, number, e.taken)
				}
				if d := e.flying; len(d) != 1 || d[0] != word(e.taken) {
					t.Errorf("window %d, %d taken: behind %d there flies %q", window, taken, number, d)
				}
			}
		}
	}
}

func TestFirstOfANumberIsKept(t *testing.T) {
	r, _ := New(1, 2)
	at := side{server: true}
	r.arrive(at, message{2, 0, putBy(0, 0, 'x')}.datagram(0))
	r.arrive(at, message{2, 0, putBy(0, 0, 'y')}.datagram(0))
	r.arrive(at, message{1, 0, operation{}}.datagram(0))
	if s, _ := r.Read(-1); s != "x" {
		t.Errorf("the server has %q", s)
	}
	if kept := r.ends[at].kept; len(kept) != 0 {
		t.Errorf("what was taken is still kept: %v", kept)
	}
}

// TestNoMoreIsHeldThanIsNeeded: what is known to be taken, and what need not be turned again, is let go.
func TestNoMoreIsHeldThanIsNeeded(t *testing.T) {
	r, _ := New(2, 1)
	for i := range 20 {
		c := i % 2
		r.Put(c, 0, 'a')
		for range 3 {
			for _, way := range []side{{c, false}, {1 - c, true}, {1 - c, false}, {c, true}} {
				for len(r.ends[way].flying) > 0 {
					r.Fate(way.client, way.server, 0, 0)
				}
			}
		}
		for s, e := range r.ends {
			if len(e.waiting) != 0 || len(e.kept) != 0 || len(e.open) > 2 {
				t.Fatalf("%v holds %v, %v, %v", s, e.waiting, e.kept, e.open)
			}
		}
	}
}
