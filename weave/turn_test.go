package weave

import (
	"slices"
	"testing"
)

func putBy(client, place int, letter byte) operation {
	return operation{client: client, kind: put, place: place, letter: letter}
}

func cutBy(client, place int) operation {
	return operation{client: client, kind: cut, place: place}
}

func TestTurningTable(t *testing.T) {
	for _, c := range []struct{ a, b, want operation }{
		{putBy(1, 2, 'x'), putBy(0, 3, 'y'), putBy(1, 2, 'x')},
		{putBy(1, 3, 'x'), putBy(0, 3, 'y'), putBy(1, 4, 'x')},
		{putBy(0, 3, 'x'), putBy(1, 3, 'y'), putBy(0, 3, 'x')},
		{putBy(0, 4, 'x'), putBy(1, 3, 'y'), putBy(0, 5, 'x')},
		{putBy(0, 2, 'x'), cutBy(1, 3), putBy(0, 2, 'x')},
		{putBy(0, 3, 'x'), cutBy(1, 3), putBy(0, 3, 'x')},
		{putBy(0, 4, 'x'), cutBy(1, 3), putBy(0, 3, 'x')},
		{cutBy(0, 2), putBy(1, 3, 'y'), cutBy(0, 2)},
		{cutBy(0, 3), putBy(1, 3, 'y'), cutBy(0, 4)},
		{cutBy(0, 4), putBy(1, 3, 'y'), cutBy(0, 5)},
		{cutBy(0, 2), cutBy(1, 3), cutBy(0, 2)},
		{cutBy(0, 3), cutBy(1, 3), operation{client: 0}},
		{cutBy(2, 3), cutBy(1, 3), operation{client: 2}},
		{cutBy(0, 4), cutBy(1, 3), cutBy(0, 3)},
		{putBy(0, 4, 'x'), operation{client: 1}, putBy(0, 4, 'x')},
		{cutBy(0, 4), operation{client: 1}, cutBy(0, 4)},
		{operation{client: 2}, putBy(1, 0, 'y'), operation{client: 2}},
		{operation{client: 2}, cutBy(1, 0), operation{client: 2}},
		{operation{client: 2}, operation{client: 1}, operation{client: 2}},
	} {
		if got := c.a.turned(c.b); got != c.want {
			t.Errorf("%v turned against %v is %v, want %v", c.a, c.b, got, c.want)
		}
	}
}

// operationsOn are all that a client may do to a text of some length.
func operationsOn(length, client int) []operation {
	all := []operation{{client: client}}
	for place := range length + 1 {
		all = append(all, putBy(client, place, 'A'+byte(client)))
	}
	for place := range length {
		all = append(all, cutBy(client, place))
	}
	return all
}

func done(s string, several ...operation) string {
	written := &text{letters: []byte(s)}
	for _, o := range several {
		written.do(o)
	}
	return written.told()
}

// TestBothWaysAroundAreOne is what P9 rests on: either order, the later one turned, makes one text.
func TestBothWaysAroundAreOne(t *testing.T) {
	const s = "wxyz"
	for length := range len(s) + 1 {
		for _, a := range operationsOn(length, 1) {
			for _, b := range slices.Concat(operationsOn(length, 0), operationsOn(length, 2)) {
				one, other := done(s[:length], a, b.turned(a)), done(s[:length], b, a.turned(b))
				if one != other {
					t.Errorf("%v and %v make %q and %q", a, b, one, other)
				}
			}
		}
	}
}

func TestTurningAgainstSeveral(t *testing.T) {
	o, behind := turnAgainst(putBy(1, 2, 'x'), putBy(0, 2, 'y'), cutBy(0, 0), cutBy(0, 2))
	if o != putBy(1, 2, 'x') {
		t.Errorf("it is turned to %v", o)
	}
	if want := []operation{putBy(0, 2, 'y'), cutBy(0, 0), cutBy(0, 3)}; !slices.Equal(behind, want) {
		t.Errorf("the others are turned to %v, want %v", behind, want)
	}
	if o, behind = turnAgainst(cutBy(1, 2)); o != cutBy(1, 2) || len(behind) != 0 {
		t.Errorf("against none: %v, %v", o, behind)
	}
}
