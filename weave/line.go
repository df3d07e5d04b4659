package weave

// side is which end of which line: by it an end is found.
type side struct {
	client int
	server bool
}

// across is the other end of the same line.
func (s side) across() side {
	s.server = !s.server
	return s
}

// message is what an end made. Its context is how many of the other end's messages had been taken then.
type message struct {
	number  int
	context int
	operation
}

// end is one end of a line. What it sent flies from it, so the way down is the server's end's, the way up the client's.
type end struct {
	text    *text
	window  int
	known   int             // how many of its messages the other end is known to have taken
	waiting []message       // those above that
	taken   int             // how many of the other end's messages it has taken
	seen    int             // how many of its own the other end had taken when it made the last of these
	open    []operation     // what its own above that do, each behind all that was taken
	kept    map[int]message // what came too early, by its number
	flying  []datagram
}

func newEnd(t *text, window int) *end {
	return &end{text: t, window: window, kept: map[int]message{}}
}

func (e *end) waits() int {
	return len(e.waiting)
}

func (e *end) made() int {
	return e.known + len(e.waiting)
}

// refusal tells why a client's end may make nothing now, or OK.
func (e *end) refusal() Errno {
	switch {
	case e.waits() >= e.window:
		return ErrWindow
	case e.made() >= maxMade:
		return ErrMany
	}
	return OK
}

// change is what a client does to its own text at once.
func (e *end) change(o operation) {
	e.text.do(o)
	e.makeMessage(o)
}

func (e *end) makeMessage(o operation) {
	m := message{number: e.made() + 1, context: e.taken, operation: o}
	e.waiting = append(e.waiting, m)
	e.open = append(e.open, o)
	// A server's end may make more than its window lets fly: the rest is sent when more is known.
	if len(e.waiting) <= e.window {
		e.send(m)
	}
}

// sendable is what the window lets fly.
func (e *end) sendable() []message {
	return e.waiting[:min(e.window, len(e.waiting))]
}

// send sends messages, each with what the end has taken by now, not when it was made.
func (e *end) send(messages ...message) {
	for _, m := range messages {
		e.fly(m.datagram(e.taken))
	}
}

// fly puts datagrams on the way; those for which there is no room are lost.
func (e *end) fly(datagrams ...datagram) {
	room := maxFlying - len(e.flying)
	e.flying = append(e.flying, datagrams[:min(room, len(datagrams))]...)
}

// tick sends again what may not have come, or else tells what was taken.
func (e *end) tick() {
	switch {
	case e.waits() > 0:
		e.send(e.sendable()...)
	case e.taken > 0:
		e.fly(word(e.taken))
	}
}

// learn is told how many of its messages the other end has taken. What was sent earlier may come later and tell less than is known.
func (e *end) learn(taken int) {
	if taken <= e.known || taken > e.made() {
		return
	}
	sent := e.known + len(e.sendable())
	e.waiting = e.waiting[taken-e.known:]
	e.known = taken
	for _, m := range e.sendable() {
		if m.number > sent {
			e.send(m)
		}
	}
}

// keep keeps a message until it is the next one to be taken. One that was taken already, or is too far ahead, is left.
func (e *end) keep(m message) {
	ahead := m.number - (e.taken + 1)
	if ahead < 0 || ahead >= e.window {
		return
	}
	if _, ok := e.kept[m.number]; !ok {
		e.kept[m.number] = m
	}
}

// take does a message to the end's text, behind those of its own that the other end had not taken when it made the message. It tells what was done.
func (e *end) take(m message) operation {
	o, behind := turnAgainst(m.operation, e.open[m.context-e.seen:]...)
	e.open, e.seen = behind, m.context
	e.taken = m.number
	e.text.do(o)
	return o
}
