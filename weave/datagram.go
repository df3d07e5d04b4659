package weave

// The kinds of datagram: the first byte of each.
const (
	kindMessage = 1
	kindWord    = 2
)

// The lengths of the two forms, with their check.
const (
	messageLength = 10
	wordLength    = 4
)

// checkModulus is what both sums of a check are taken modulo of.
const checkModulus = 251

// datagram is a run of bytes on a line.
type datagram string

// check is the two sums behind a datagram's other bytes.
type check [2]byte

// datagram tells a message's bytes. All its numbers fit into a byte: the server makes at most 3 times maxMade messages on a line, and no text is longer than 4 times maxMade.
func (m message) datagram(taken int) datagram {
	return write(kindMessage, byte(m.number), byte(m.context), byte(taken), byte(m.client), byte(m.kind), byte(m.place), m.letter)
}

// word tells the bytes that say nothing but how many were taken.
func word(taken int) datagram {
	return write(kindWord, byte(taken))
}

// write writes a run of bytes and their check behind them.
func write(run ...byte) datagram {
	sums := checkOf(run...)
	return datagram(run) + datagram(sums[:])
}

func checkOf(run ...byte) check {
	sum, weighted := 0, 0
	for i, b := range run {
		sum += int(b)
		weighted += (i + 1) * int(b)
	}
	return check{byte(sum % checkModulus), byte(weighted % checkModulus)}
}

// wellFormed tells whether a datagram has one of the two forms.
func (d datagram) wellFormed() bool {
	switch {
	case len(d) == messageLength && d[0] == kindMessage:
	case len(d) == wordLength && d[0] == kindWord:
	default:
		return false
	}
	run, sums := []byte(d[:len(d)-2]), check([]byte(d[len(d)-2:]))
	return checkOf(run...) == sums
}

func (d datagram) isMessage() bool {
	return d[0] == kindMessage
}

// taken is how many were taken, as a well-formed datagram says.
func (d datagram) taken() int {
	if d.isMessage() {
		return int(d[3])
	}
	return int(d[1])
}

// message is what a well-formed message's bytes tell.
func (d datagram) message() message {
	o := operation{client: int(d[4]), kind: int(d[5]), place: int(d[6]), letter: d[7]}
	return message{number: int(d[1]), context: int(d[2]), operation: o}
}

// spoilt tells whether the line has spoilt a datagram. What an end sends has one of two first bytes, so no mark beside the bytes is needed, and a copy is as spoilt as what it is a copy of.
func (d datagram) spoilt() bool {
	return d[0] != kindMessage && d[0] != kindWord
}

// spoil tells what a datagram's bytes are once it is spoilt.
func (d datagram) spoil() datagram {
	return datagram([]byte{255 - d[0]}) + d[1:]
}
