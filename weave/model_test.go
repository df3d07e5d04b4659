package weave_test

import (
	"slices"
	"strconv"
	"testing"

	"weave/weave"
)

// The model does what the document says in its own words: U and D by their recursion, all that was ever made held on to. It is held against the program, call by call.

type modelOp struct {
	client, kind, place, letter int // kind 0 NOTHING, 1 PUT, 2 CUT
}

type modelMessage struct {
	context int
	op      modelOp
}

// modelDatagram is a datagram ahead of its being bytes. Of a word, number is 0.
type modelDatagram struct {
	number, taken int
	spoilt        bool
}

type modelEnd struct {
	made         []modelMessage
	known, taken int
	kept         []int
	flying       []modelDatagram
}

// modelLine has the client's end at 0, the server's at 1.
type modelLine struct {
	ends [2]modelEnd
	memo map[[3]int]modelOp
}

type model struct {
	window int
	lines  []*modelLine
	texts  []string // the clients', and the server's at the end
}

func newModel(clients, window int) *model {
	m := &model{window: window, texts: make([]string, clients+1)}
	for range clients {
		m.lines = append(m.lines, &modelLine{memo: map[[3]int]modelOp{}})
	}
	return m
}

func modelTurn(a, b modelOp) modelOp {
	p, q := a.place, b.place
	move := 0
	switch strconv.Itoa(a.kind) + strconv.Itoa(b.kind) {
	case "11":
		if !(p < q || p == q && a.client < b.client) {
			move = 1
		}
	case "12":
		if !(p <= q) {
			move = -1
		}
	case "21":
		if !(p < q) {
			move = 1
		}
	case "22":
		if p == q {
			return modelOp{client: a.client}
		}
		if !(p < q) {
			move = -1
		}
	}
	a.place += move
	return a
}

// behind is U(i, k) of the client's end (0), D(i, k) of the server's (1).
func (l *modelLine) behind(end, i, k int) modelOp {
	key := [3]int{end, i, k}
	if o, ok := l.memo[key]; ok {
		return o
	}
	m := l.ends[end].made[i-1]
	o := m.op
	if k > m.context {
		o = modelTurn(l.behind(end, i, k-1), l.behind(1-end, k, i-1))
	}
	l.memo[key] = o
	return o
}

func modelDo(s string, o modelOp) string {
	switch o.kind {
	case 1:
		return s[:o.place] + string(rune(o.letter)) + s[o.place:]
	case 2:
		return s[:o.place] + s[o.place+1:]
	}
	return s
}

func (m *model) send(client, end int, d modelDatagram) {
	e := &m.lines[client].ends[end]
	if len(e.flying) < 12 {
		e.flying = append(e.flying, d)
	}
}

func (m *model) sendMessages(client, end, above, upTo int) {
	e := &m.lines[client].ends[end]
	for number := above + 1; number <= upTo && number <= len(e.made); number++ {
		m.send(client, end, modelDatagram{number: number, taken: e.taken})
	}
}

func (m *model) make(client, end int, o modelOp) {
	e := &m.lines[client].ends[end]
	e.made = append(e.made, modelMessage{e.taken, o})
	if len(e.made) <= e.known+m.window {
		m.sendMessages(client, end, len(e.made)-1, len(e.made))
	}
}

func (m *model) change(o modelOp) weave.Errno {
	if o.client < 0 || o.client >= len(m.lines) {
		return weave.ErrClient
	}
	e := &m.lines[o.client].ends[0]
	s := m.texts[o.client]
	last := len(s)
	if o.kind == 2 {
		last--
	}
	switch {
	case o.place < 0 || o.place > last:
		return weave.ErrPlace
	case o.kind == 1 && (o.letter < 33 || o.letter > 126):
		return weave.ErrLetter
	case len(e.made)-e.known >= m.window:
		return weave.ErrWindow
	case len(e.made) >= 60 || o.kind == 1 && len(s) >= 60:
		return weave.ErrMany
	}
	m.texts[o.client] = modelDo(s, o)
	m.make(o.client, 0, o)
	return weave.OK
}

func (m *model) fate(client int, down bool, n, kind int) weave.Errno {
	if client < 0 || client >= len(m.lines) {
		return weave.ErrClient
	}
	from := 0
	if down {
		from = 1
	}
	e := &m.lines[client].ends[from]
	switch {
	case n < 0 || n >= len(e.flying):
		return weave.ErrFlight
	case kind < 0 || kind > 3:
		return weave.ErrArg
	case kind == 3 && e.flying[n].spoilt:
		return weave.ErrSpoilt
	}
	d := e.flying[n]
	switch kind {
	case 0, 1:
		e.flying = slices.Delete(e.flying, n, n+1)
		if kind == 0 && !d.spoilt {
			m.deliver(client, 1-from, d)
		}
	case 2:
		m.send(client, from, d)
	case 3:
		e.flying[n].spoilt = true
	}
	return weave.OK
}

func (m *model) deliver(client, end int, d modelDatagram) {
	e := &m.lines[client].ends[end]
	if d.taken > e.known && d.taken <= len(e.made) {
		was := e.known
		e.known = d.taken
		m.sendMessages(client, end, was+m.window, e.known+m.window)
	}
	if d.number == 0 {
		return
	}
	next := e.taken + 1
	if d.number == next {
		m.take(client, end)
		for slices.Contains(e.kept, e.taken+1) {
			m.take(client, end)
		}
	} else if d.number > next && d.number-next < m.window && !slices.Contains(e.kept, d.number) {
		e.kept = append(e.kept, d.number)
	}
	m.send(client, end, modelDatagram{taken: e.taken})
}

func (m *model) take(client, end int) {
	e := &m.lines[client].ends[end]
	o := m.lines[client].behind(1-end, e.taken+1, len(e.made))
	e.taken++
	if end == 0 {
		m.texts[client] = modelDo(m.texts[client], o)
		return
	}
	server := len(m.lines)
	m.texts[server] = modelDo(m.texts[server], o)
	for other := range m.lines {
		if other != client {
			m.make(other, 1, o)
		}
	}
}

func (m *model) tick(client, end int) {
	e := &m.lines[client].ends[end]
	if len(e.made) > e.known {
		m.sendMessages(client, end, e.known, e.known+m.window)
	} else if e.taken > 0 {
		m.send(client, end, modelDatagram{taken: e.taken})
	}
}

func (m *model) bytes(client, end int, d modelDatagram) string {
	s := wrap(2, d.taken)
	if d.number > 0 {
		x := m.lines[client].ends[end].made[d.number-1]
		s = wrap(1, d.number, x.context, d.taken, x.op.client, x.op.kind, x.op.place, x.op.letter)
	}
	if d.spoilt {
		s = string([]byte{255 - s[0]}) + s[1:]
	}
	return s
}

func (m *model) look() seen {
	var s seen
	s.texts[0] = m.texts[len(m.lines)]
	for c, l := range m.lines {
		s.texts[c+1] = m.texts[c]
		s.waits[c] = len(l.ends[0].made) - l.ends[0].known
		for end := range l.ends {
			s.flying[c][end] = len(l.ends[end].flying)
			for n, d := range l.ends[end].flying {
				s.bytes[c][end][n] = m.bytes(c, end, d)
			}
		}
	}
	return s
}

// settled: all that was made on all lines is taken.
func (m *model) settled() bool {
	for _, l := range m.lines {
		if l.ends[0].taken != len(l.ends[1].made) || l.ends[1].taken != len(l.ends[0].made) {
			return false
		}
	}
	return true
}

// dice is a run of numbers that is the same in every run of the tests.
type dice uint64

func (d *dice) below(n int) int {
	*d = *d*6364136223846793005 + 1442695040888963407
	return int(uint64(*d>>33) % uint64(n))
}

// play is a room and its model, to which the same is done.
type play struct {
	t     *testing.T
	room  *weave.Room
	model *model
	dice  dice
	put   int // how many letters in all
}

func newPlay(t *testing.T, clients, window int, seed uint64) *play {
	return &play{t: t, room: newRoom(t, clients, window), model: newModel(clients, window), dice: dice(seed)}
}

func (p *play) agree(what string, got, want weave.Errno) {
	p.t.Helper()
	if got != want {
		p.t.Fatalf("%s = %d, want %d", what, got, want)
	}
	s := look(p.room)
	if s != p.model.look() {
		p.t.Fatalf("behind %s the room is %#v, want %#v", what, s, p.model.look())
	}
	for _, text := range s.texts {
		if len(text) > p.put {
			p.t.Fatalf("%d letters were put, and a text has %d", p.put, len(text))
		}
	}
	if p.model.settled() {
		p.same(s)
	}
}

// same: all texts are the server's.
func (p *play) same(s seen) {
	p.t.Helper()
	for c := range p.model.lines {
		if s.texts[c+1] != s.texts[0] {
			p.t.Fatalf("all is taken, and the texts are %q", s.texts)
		}
	}
}

func (p *play) change() {
	client := p.dice.below(len(p.model.lines))
	place := p.dice.below(len(p.model.texts[client]) + 2)
	letter := 33 + p.dice.below(94)
	var got, want weave.Errno
	if p.dice.below(3) > 0 {
		want = p.model.change(modelOp{client, 1, place, letter})
		if want == weave.OK {
			p.put++
		}
		got = p.room.Put(client, place, byte(letter))
	} else {
		want = p.model.change(modelOp{client: client, kind: 2, place: place})
		got = p.room.Cut(client, place)
	}
	p.agree("Put or Cut", got, want)
}

func (p *play) fate(client, end, n, kind int) {
	p.t.Helper()
	want := p.model.fate(client, end == 1, n, kind)
	p.agree("Fate", p.room.Fate(client, end == 1, n, kind), want)
}

func (p *play) tick(client, end int) {
	p.t.Helper()
	p.model.tick(client, end)
	p.agree("Tick", p.room.Tick(client, end == 1), weave.OK)
}

// step does something; bad of 10 datagrams are not just delivered.
func (p *play) step(bad int) {
	client, end := p.dice.below(len(p.model.lines)), p.dice.below(2)
	flying := len(p.model.lines[client].ends[end].flying)
	switch p.dice.below(12) {
	case 0, 1, 2, 3:
		p.change()
	case 4:
		p.tick(client, end)
	default:
		kind := 0
		if p.dice.below(10) < bad {
			kind = p.dice.below(5)
		}
		n := p.dice.below(flying + 1)
		if n == flying && p.dice.below(4) > 0 {
			n = 0
		}
		p.fate(client, end, n, kind)
	}
}

func (p *play) everyEnd(do func(client, end int)) {
	for client := range p.model.lines {
		for end := range 2 {
			do(client, end)
		}
	}
}

// deliverAll delivers what flies, and what flies then, until nothing does.
func (p *play) deliverAll() {
	p.t.Helper()
	for range 5000 {
		moved := false
		p.everyEnd(func(client, end int) {
			if flying := len(p.model.lines[client].ends[end].flying); flying > 0 {
				p.fate(client, end, p.dice.below(flying), 0)
				moved = true
			}
		})
		if !moved {
			return
		}
	}
	p.t.Fatal("what flies has no end")
}

// settle ticks all ends, and delivers all, until all is taken.
func (p *play) settle() {
	p.t.Helper()
	for range 500 {
		p.deliverAll()
		waits := 0
		for c := range p.model.lines {
			n, _ := p.room.Waits(c)
			waits += n
		}
		if p.model.settled() && waits == 0 {
			p.same(look(p.room))
			return
		}
		p.everyEnd(p.tick)
	}
	p.t.Fatal("all was ticked and delivered, and it is not all taken")
}

// TestAgainstTheModel goes through many rooms, on lines from good to bad, and settles each (P9).
func TestAgainstTheModel(t *testing.T) {
	for clients := 1; clients <= 4; clients++ {
		for window := 1; window <= 4; window++ {
			for _, bad := range []int{0, 3, 8} {
				for seed := range uint64(4) {
					p := newPlay(t, clients, window, seed*1000+uint64(clients*100+window*10+bad))
					for range 2 {
						for range 250 {
							p.step(bad)
						}
						p.settle()
					}
				}
			}
		}
	}
}

// allMade: every client has made as much as it may.
func (m *model) allMade() bool {
	return !slices.ContainsFunc(m.lines, func(l *modelLine) bool { return len(l.ends[0].made) < 60 })
}

// TestAllThatMayBeMade goes to the far end of MaxMade, and of the numbers that a datagram's bytes tell.
func TestAllThatMayBeMade(t *testing.T) {
	p := newPlay(t, 4, 4, 7)
	for range 1000 {
		for range 10 {
			p.change()
		}
		p.everyEnd(func(client, end int) { p.fate(client, end, 0, 0) })
		if p.dice.below(4) == 0 {
			p.everyEnd(p.tick)
			p.deliverAll()
		}
		if p.model.allMade() {
			break
		}
	}
	p.settle()
	for c, l := range p.model.lines {
		if len(l.ends[0].made) != 60 || len(l.ends[1].made) != 180 {
			t.Errorf("client %d has made %d, the server %d on its line", c, len(l.ends[0].made), len(l.ends[1].made))
		}
		wantErrno(t, "Put of one more", p.room.Put(c, 0, 'a'), weave.ErrMany)
	}
}

// TestWhatIsDoneTwiceIsAnsweredTwice: no answer hangs on the order of a map (P2).
func TestWhatIsDoneTwiceIsAnsweredTwice(t *testing.T) {
	run := func() seen {
		p := newPlay(t, 3, 4, 11)
		for range 300 {
			p.step(5)
		}
		return look(p.room)
	}
	first := run()
	for range 10 {
		if run() != first {
			t.Fatal("the same calls ended in another room")
		}
	}
}
