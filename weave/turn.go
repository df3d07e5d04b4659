package weave

// kinds are the kinds of two operations, the one that is turned first.
type kinds [2]int

// turned tells what does as o, behind b of another client that was meant for the same text.
func (o operation) turned(b operation) operation {
	switch (kinds{o.kind, b.kind}) {
	case kinds{put, put}:
		// Two letters for one place need an order that both ends agree on.
		if o.place > b.place || o.place == b.place && o.client >= b.client {
			o.place++
		}
	case kinds{put, cut}:
		if o.place > b.place {
			o.place--
		}
	case kinds{cut, put}:
		if o.place >= b.place {
			o.place++
		}
	case kinds{cut, cut}:
		// What both have cut is gone already.
		if o == b.of(o.client) {
			return operation{client: o.client}
		}
		if o.place > b.place {
			o.place--
		}
	}
	return o
}

// of is the same operation as if it were another client's.
func (o operation) of(client int) operation {
	o.client = client
	return o
}

// turnAgainst turns an operation against several that are behind one another, and each of them against it: it tells the operation behind them all, and them behind it.
func turnAgainst(o operation, several ...operation) (operation, []operation) {
	var behind []operation
	for _, own := range several {
		behind = append(behind, own.turned(o))
		o = o.turned(own)
	}
	return o, behind
}
