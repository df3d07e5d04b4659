package weave

// side is which end of which line: by it an end is found.
type side struct {
	client int
	server bool
}

// message is what an end made. Its context is how many of the other end's messages had been taken then.
type message struct {
	number  int
	context int
	operation
}

// end is one end of a line. What it sent flies from it, so the way down is the server's end's, the way up the client's.
type end struct {
	text   *text
	window int
	made   []message
	known  int // how many of the made ones the other end is known to have taken
	taken  int // how many of the other end's it has taken
	flying []string
}

func (e *end) waits() int {
	return len(e.made) - e.known
}

// refusal tells why a client's end may make nothing now, or OK.
func (e *end) refusal() Errno {
	switch {
	case e.waits() >= e.window:
		return ErrWindow
	case len(e.made) >= maxMade:
		return ErrMany
	}
	return OK
}

// change is what a client does to its own text at once.
func (e *end) change(o operation) {
	e.text.do(o)
	e.makeMessage(o)
}

func (e *end) makeMessage(o operation) {
	m := message{number: len(e.made) + 1, context: e.taken, operation: o}
	e.made = append(e.made, m)
	// A server's end may make more than its window lets fly: the rest waits until more is known.
	if m.number <= e.known+e.window {
		e.send(m)
	}
}

// send sends messages, each with what the end has taken by now, not when it was made.
func (e *end) send(messages ...message) {
	for _, m := range messages {
		e.fly(m.datagram(e.taken))
	}
}

// fly puts datagrams on the way; those for which there is no room are lost.
func (e *end) fly(datagrams ...string) {
	room := maxFlying - len(e.flying)
	e.flying = append(e.flying, datagrams[:min(room, len(datagrams))]...)
}
