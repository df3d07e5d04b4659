package weave

import "slices"

// The kinds of operation, with the numbers that a datagram has for them.
const (
	nothing = iota
	put
	cut
)

// operation is what a client did. A place or letter that its kind has no use for is 0, so that equal operations are equal values.
type operation struct {
	client int
	kind   int
	place  int
	letter byte
}

// text is a run of letters.
type text struct {
	letters []byte
}

func isLetter(b byte) bool {
	return b >= 33 && b <= 126
}

func (t *text) length() int {
	return len(t.letters)
}

func (t *text) told() string {
	return string(t.letters)
}

func (t *text) do(o operation) {
	switch o.kind {
	case put:
		t.letters = slices.Insert(t.letters, o.place, o.letter)
	case cut:
		t.letters = slices.Delete(t.letters, o.place, o.place+1)
	}
}
