// Package weave: one text, written by several at once, over lines that lose things: see DOC.md.
package weave

// Errno is what a call answers: OK or the reason for a refusal.
type Errno int

const (
	OK        Errno = 0
	ErrArg    Errno = 1 // a number that may not be
	ErrClient Errno = 2 // no such client
	ErrPlace  Errno = 3 // no such place in the text
	ErrLetter Errno = 4 // no letter
	ErrWindow Errno = 5 // too much that is not known to be taken
	ErrMany   Errno = 6 // too many operations or letters
	ErrFlight Errno = 7 // no such datagram
	ErrSpoilt Errno = 8 // a datagram that is spoilt already
)

const (
	maxClients = 4
	maxWindow  = 4
	maxFlying  = 12
	maxText    = 60
	maxMade    = 60
)

// theServer is the number by which Read is asked for the server's text.
const theServer = -1

// Room is a server and its clients.
type Room struct {
	text *text // the server's; its ends of all lines share it
	ends map[side]*end
}

// New makes a room (P3).
func New(clients int, window int) (*Room, Errno) {
	if clients < 1 || clients > maxClients || window < 1 || window > maxWindow {
		return nil, ErrArg
	}
	r := &Room{text: &text{}, ends: map[side]*end{}}
	for c := range clients {
		r.ends[side{client: c}] = newEnd(&text{}, window)
		r.ends[side{client: c, server: true}] = newEnd(r.text, window)
	}
	return r, OK
}

// Put puts a letter into a client's text (P4).
func (r *Room) Put(client int, place int, letter byte) Errno {
	e := r.ends[side{client: client}]
	if e == nil {
		return ErrClient
	}
	if place < 0 || place > e.text.length() {
		return ErrPlace
	}
	if !isLetter(letter) {
		return ErrLetter
	}
	if refusal := e.refusal(); refusal != OK {
		return refusal
	}
	if e.text.length() >= maxText {
		return ErrMany
	}
	e.change(operation{client: client, kind: put, place: place, letter: letter})
	return OK
}

// Cut takes a letter out of a client's text (P4).
func (r *Room) Cut(client int, place int) Errno {
	e := r.ends[side{client: client}]
	if e == nil {
		return ErrClient
	}
	if place < 0 || place >= e.text.length() {
		return ErrPlace
	}
	if refusal := e.refusal(); refusal != OK {
		return refusal
	}
	e.change(operation{client: client, kind: cut, place: place})
	return OK
}

// Read tells a text (P5).
func (r *Room) Read(client int) (string, Errno) {
	if client == theServer {
		return r.text.told(), OK
	}
	e := r.ends[side{client: client}]
	if e == nil {
		return "", ErrClient
	}
	return e.text.told(), OK
}

// Waits tells how much a client does not know to be taken (P5).
func (r *Room) Waits(client int) (int, Errno) {
	e := r.ends[side{client: client}]
	if e == nil {
		return 0, ErrClient
	}
	return e.waits(), OK
}

// Flying tells how many datagrams are on a line (P6).
func (r *Room) Flying(client int, down bool) (int, Errno) {
	e := r.ends[side{client: client, server: down}]
	if e == nil {
		return 0, ErrClient
	}
	return len(e.flying), OK
}

// Peek tells a datagram's bytes (P6).
func (r *Room) Peek(client int, down bool, n int) (string, Errno) {
	e := r.ends[side{client: client, server: down}]
	if e == nil {
		return "", ErrClient
	}
	if n < 0 || n >= len(e.flying) {
		return "", ErrFlight
	}
	return string(e.flying[n]), OK
}

// Fate decides what becomes of a datagram (P7).
func (r *Room) Fate(client int, down bool, n int, kind int) Errno {
	from := side{client: client, server: down}
	e := r.ends[from]
	if e == nil {
		return ErrClient
	}
	if n < 0 || n >= len(e.flying) {
		return ErrFlight
	}
	fate := fates()[kind]
	if fate == nil {
		return ErrArg
	}
	return fate(flight{room: r, from: from, n: n})
}

// Tick is the tick of an end of a client's line (P8).
func (r *Room) Tick(client int, server bool) Errno {
	e := r.ends[side{client: client, server: server}]
	if e == nil {
		return ErrClient
	}
	e.tick()
	return OK
}
