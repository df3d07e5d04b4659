package weave

// kindMessage is the first byte of a message's datagram.
const kindMessage = 1

// checkModulus is what both sums of a check are taken modulo of.
const checkModulus = 251

// datagram tells a message's bytes. All its numbers fit into a byte: the server makes at most 3 times maxMade messages on a line, and no text is longer than 4 times maxMade.
func (m message) datagram(taken int) string {
	return write(kindMessage, byte(m.number), byte(m.context), byte(taken), byte(m.client), byte(m.kind), byte(m.place), m.letter)
}

// write writes a run of bytes and their check behind them.
func write(run ...byte) string {
	sum, weighted := 0, 0
	for i, b := range run {
		sum += int(b)
		weighted += (i + 1) * int(b)
	}
	// A run that is handed in whole is its giver's: the check goes behind a copy.
	written := append([]byte{}, run...)
	return string(append(written, byte(sum%checkModulus), byte(weighted%checkModulus)))
}
