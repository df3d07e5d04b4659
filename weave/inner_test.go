package weave

import (
	"strings"
	"testing"
)

// settled is a client's end after all that it made is known to be taken and nothing flies.
func settled(r *Room, client int) *end {
	e := r.ends[side{client: client}]
	e.learn(e.made())
	e.flying = nil
	return e
}

func TestP4WindowMovesWithWhatIsKnown(t *testing.T) {
	r, _ := New(1, 2)
	r.Put(0, 0, 'a')
	r.Put(0, 1, 'b')
	r.ends[side{}].learn(1)
	if n, e := r.Waits(0); n != 1 || e != OK {
		t.Errorf("Waits = %d, %d, want 1", n, e)
	}
	if e := r.Cut(0, 0); e != OK {
		t.Errorf("Cut within the window = %d", e)
	}
	if e := r.Put(0, 0, 'c'); e != ErrWindow {
		t.Errorf("Put above the window = %d", e)
	}
}

func TestP4ManyMade(t *testing.T) {
	r, _ := New(2, 1)
	for i := range 60 {
		settled(r, 0)
		e := OK
		if i%2 == 0 {
			e = r.Put(0, 0, 'a')
		} else {
			e = r.Cut(0, 0)
		}
		if e != OK {
			t.Fatalf("operation %d = %d", i+1, e)
		}
	}
	r.ends[side{}].text.letters = []byte("ab")
	if e := r.Put(0, 0, 'a'); e != ErrWindow {
		t.Errorf("Put one too many, the window full = %d", e)
	}
	settled(r, 0)
	if e := r.Put(0, 0, 'a'); e != ErrMany {
		t.Errorf("Put one too many = %d", e)
	}
	if e := r.Cut(0, 0); e != ErrMany {
		t.Errorf("Cut one too many = %d", e)
	}
	if e := r.Put(0, 0, ' '); e != ErrLetter {
		t.Errorf("Put of no letter, one too many = %d", e)
	}
	if e := r.Put(0, 3, 'a'); e != ErrPlace {
		t.Errorf("Put at no place, one too many = %d", e)
	}
	if e := r.Put(1, 0, 'a'); e != OK {
		t.Errorf("Put of another client = %d", e)
	}
	if s, _ := r.Read(0); s != "ab" {
		t.Errorf("a refusal changed the text to %q", s)
	}
}

func TestP4ManyLetters(t *testing.T) {
	// What others put may make a text longer than a client itself could.
	for _, length := range []int{60, 61, 240} {
		r, _ := New(1, 4)
		e := r.ends[side{}]
		e.text.letters = []byte(strings.Repeat("a", length))
		if got := r.Put(0, length, 'b'); got != ErrMany {
			t.Errorf("Put behind %d letters = %d", length, got)
		}
		if e.made() != 0 || len(e.flying) != 0 || e.text.length() != length {
			t.Errorf("the refused Put behind %d letters left something", length)
		}
		if got := r.Cut(0, length-1); got != OK {
			t.Errorf("Cut of the last of %d letters = %d", length, got)
		}
	}
	r, _ := New(1, 1)
	e := r.ends[side{}]
	e.text.letters = []byte(strings.Repeat("a", 59))
	if got := r.Put(0, 0, 'b'); got != OK {
		t.Errorf("Put that makes the text full = %d", got)
	}
	if got := r.Put(0, 0, 'b'); got != ErrWindow {
		t.Errorf("Put to a full text, the window full = %d", got)
	}
}

func TestP5ServersTextIsReadByItsNumber(t *testing.T) {
	r, _ := New(2, 1)
	for c, letter := range []byte("ab") {
		r.ends[side{client: c, server: true}].text.do(operation{client: c, kind: put, place: c, letter: letter})
	}
	if s, e := r.Read(-1); s != "ab" || e != OK {
		t.Errorf("Read(-1) = %q, %d", s, e)
	}
	if s, e := r.Read(0); s != "" || e != OK {
		t.Errorf("Read(0) = %q, %d", s, e)
	}
}

func TestP6ContextAndTaken(t *testing.T) {
	r, _ := New(1, 2)
	e := r.ends[side{}]
	e.taken = 3
	r.Put(0, 0, 'a')
	e.taken = 5
	e.send(e.waiting...)
	for n, head := range []string{"\x01\x01\x03\x03", "\x01\x01\x03\x05"} {
		if s, _ := r.Peek(0, false, n); !strings.HasPrefix(s, head) {
			t.Errorf("Peek(0, false, %d) = %q, want it to start with %q", n, s, head)
		}
	}
}

func TestP6WaysAreApart(t *testing.T) {
	r, _ := New(2, 2)
	r.ends[side{client: 1, server: true}].makeMessage(operation{client: 0, kind: cut, place: 7})
	if n, _ := r.Flying(1, true); n != 1 {
		t.Errorf("Flying(1, true) = %d, want 1", n)
	}
	if n, _ := r.Flying(1, false); n != 0 {
		t.Errorf("Flying(1, false) = %d, want 0", n)
	}
	if s, _ := r.Peek(1, true, 0); s != string(write(1, 1, 0, 0, 0, 2, 7, 0)) {
		t.Errorf("Peek(1, true, 0) = %q", s)
	}
}

func TestP6AtMostMaxFlying(t *testing.T) {
	r, _ := New(1, 4)
	for i := range 4 {
		r.Put(0, i, 'a')
	}
	e := r.ends[side{}]
	for range 3 {
		e.send(e.waiting...)
	}
	if n, _ := r.Flying(0, false); n != 12 {
		t.Errorf("Flying = %d, want 12", n)
	}
	// Some of one sending find room, the others are lost.
	e.flying = e.flying[:10]
	e.send(e.waiting...)
	if n, _ := r.Flying(0, false); n != 12 {
		t.Errorf("Flying = %d, want 12", n)
	}
	for n, number := range []byte{1, 2} {
		if s, _ := r.Peek(0, false, 10+n); s[1] != number {
			t.Errorf("message %d flies where %d should", s[1], number)
		}
	}
	// What finds no room is made all the same.
	e.learn(4)
	if got := r.Put(0, 0, 'b'); got != OK || e.made() != 5 || len(e.flying) != 12 {
		t.Errorf("Put on a full way = %d, %d made, %d fly", got, e.made(), len(e.flying))
	}
}

func TestMessageAboveTheWindowIsMadeAndNotSent(t *testing.T) {
	r, _ := New(2, 2)
	e := r.ends[side{client: 1, server: true}]
	for range 5 {
		e.makeMessage(operation{client: 0})
	}
	if e.made() != 5 || len(e.flying) != 2 {
		t.Errorf("%d made, %d fly, want 5 and 2", e.made(), len(e.flying))
	}
}

func TestBytesOfOperations(t *testing.T) {
	for _, c := range []struct {
		m    message
		want []byte
	}{
		{message{9, 8, operation{client: 2}}, []byte{1, 9, 8, 7, 2, 0, 0, 0}},
		{message{180, 60, operation{3, put, 239, '~'}}, []byte{1, 180, 60, 7, 3, 1, 239, 126}},
		{message{60, 180, operation{0, cut, 239, 0}}, []byte{1, 60, 180, 7, 0, 2, 239, 0}},
	} {
		if got := c.m.datagram(7); got != write(c.want...) {
			t.Errorf("%v: %q, want %q", c.m, got, write(c.want...))
		}
	}
}

func TestCheck(t *testing.T) {
	for _, c := range []struct {
		run   []byte
		check [2]byte
	}{
		{nil, [2]byte{0, 0}},
		{[]byte{250}, [2]byte{250, 250}},
		{[]byte{251}, [2]byte{0, 0}},
		{[]byte{2, 1}, [2]byte{3, 4}},
		{[]byte{1, 2}, [2]byte{3, 5}},
		{[]byte{255, 255, 255, 255, 255, 255, 255, 255}, [2]byte{32, 144}},
	} {
		if got := write(c.run...); string(got) != string(c.run)+string(c.check[:]) {
			t.Errorf("write(%v) = %v, want the check %v", c.run, []byte(got), c.check)
		}
	}
}

func TestWriteLeavesWhatItIsGiven(t *testing.T) {
	run := []byte{1, 2, 3, 4}
	write(run[:2]...)
	if run[2] != 3 || run[3] != 4 {
		t.Errorf("write wrote over %v", run)
	}
}
