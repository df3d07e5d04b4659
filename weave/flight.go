package weave

import "slices"

// flight is a datagram on a line: which room it is in, which end sent it, and its number there.
type flight struct {
	room *Room
	from side
	n    int
}

// fates is what may befall a datagram, by the number of its kind.
func fates() map[int]func(flight) Errno {
	return map[int]func(flight) Errno{
		0: flight.deliver,
		1: flight.lose,
		2: flight.double,
		3: flight.spoil,
	}
}

func (f flight) sender() *end {
	return f.room.ends[f.from]
}

func (f flight) deliver() Errno {
	d := f.sender().flying[f.n]
	f.lose()
	f.room.arrive(f.from.across(), d)
	return OK
}

func (f flight) lose() Errno {
	e := f.sender()
	e.flying = slices.Delete(e.flying, f.n, f.n+1)
	return OK
}

func (f flight) double() Errno {
	e := f.sender()
	e.fly(e.flying[f.n])
	return OK
}

func (f flight) spoil() Errno {
	e := f.sender()
	d := e.flying[f.n]
	if d.spoilt() {
		return ErrSpoilt
	}
	e.flying[f.n] = d.spoil()
	return OK
}

// arrive is a datagram's delivery to an end.
func (r *Room) arrive(at side, d datagram) {
	if !d.wellFormed() {
		return
	}
	e := r.ends[at]
	e.learn(d.taken())
	if !d.isMessage() {
		return
	}
	e.keep(d.message())
	r.takeKept(at)
	e.fly(word(e.taken))
}

// takeKept takes what an end has kept, as far as it follows on what was taken. The order of the map does not matter: at most one of the kept is the next.
func (r *Room) takeKept(at side) {
	e := r.ends[at]
again:
	for {
		for number, m := range e.kept {
			if number != e.taken+1 {
				continue
			}
			delete(e.kept, number)
			r.take(at, m)
			continue again
		}
		break again
	}
}

// take has an end take a message; what the server takes, it tells the other clients.
func (r *Room) take(at side, m message) {
	o := r.ends[at].take(m)
	if !at.server {
		return
	}
	for other := (side{server: true}); r.ends[other] != nil; other.client++ {
		if other != at {
			r.ends[other].makeMessage(o)
		}
	}
}
