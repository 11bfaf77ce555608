package nfa

import (
	"sieve/api"
	"sieve/meter"
)

// builder builds the states from the right to the left, that with the greatest number first: so the state that one goes on to has its number already.
type builder struct {
	meter   *meter.Meter
	counts  counts
	left    int // states that aren't built yet: the next one's number is one less
	at      int // the state that stands right of what is built next
	states  []State
	row     []part
	taken   int // cells
	refused api.Errno
}

// part is a node that is being built, within the one ahead of it in the row.
type part struct {
	node   *api.Node
	left   int   // Subs that aren't built yet
	behind int   // the state that it goes on to
	eps    []int // where each of its Subs begins, if it is an Alt
}

func newBuilder(m *meter.Meter, list []api.Node) *builder {
	b := &builder{meter: m, counts: counts{}, left: 1}
	for i := range list {
		b.counts.count(&list[i])
		b.left = plus(b.left, plus(1, b.counts.of(&list[i])))
	}
	return b
}

// rules builds all rules, and the automaton's first state.
func (b *builder) rules(list []api.Node) {
	starts := make([]int, len(list))
	for i := len(list) - 1; i >= 0; i-- {
		b.add(State{To: none, Accept: i})
		b.build(&list[i])
		starts[i] = b.at
	}
	b.add(over(starts))
}

// build goes down with the parts in a row, for the reason that count does. A part's method is called when it is opened, and again behind each of its Subs.
func (b *builder) build(whole *api.Node) {
	kinds := [...]func(*part){api.Class: b.class, api.Cat: b.cat, api.Alt: b.alt, api.Rep: b.rep}
	b.open(whole)
	for len(b.row) > 0 && b.refused == api.OK {
		last := &b.row[len(b.row)-1]
		kinds[last.node.Kind](last)
	}
}

// open begins a part. What takes no state isn't opened, however much it is.
func (b *builder) open(n *api.Node) {
	if b.counts.of(n) > 0 {
		b.row = append(b.row, part{node: n, left: len(n.Subs), behind: b.at})
	}
}

// sub opens the rightmost one of the Subs that are left.
func (b *builder) sub(p *part) {
	p.left--
	b.open(&p.node.Subs[p.left])
}

// end closes the last part, which has a state of its own, left of its Subs'.
func (b *builder) end(s State) {
	b.close()
	b.add(s)
}

func (b *builder) close() {
	b.row = b.row[:len(b.row)-1]
}

func (b *builder) class(p *part) {
	b.end(State{Set: p.node.Set, To: p.behind, Accept: none})
}

func (b *builder) cat(p *part) {
	if p.left == 0 {
		b.close()
		return
	}
	b.sub(p)
}

func (b *builder) alt(p *part) {
	if p.left == len(p.node.Subs) {
		p.eps = make([]int, p.left)
	} else {
		p.eps[p.left] = b.at
	}
	if p.left == 0 {
		b.end(over(p.eps))
		return
	}
	b.at = p.behind
	b.sub(p)
}

// rep lets its Sub go on to its own state, whose number is known before it is built.
func (b *builder) rep(p *part) {
	if p.left == 0 {
		b.end(over([]int{b.at, p.behind}))
		return
	}
	b.at = b.left - b.counts.of(p.node)
	b.sub(p)
}

// over is a state that goes over nothing alone.
func over(eps []int) State {
	return State{To: none, Accept: none, Eps: eps}
}

// add builds a state, unless one was refused before.
func (b *builder) add(s State) {
	if b.refused == api.OK {
		b.refused = b.ask()
	}
	if b.refused != api.OK {
		return
	}
	b.left--
	b.at = b.left
	b.states = append(b.states, s)
}

// ask asks the meter for a state's cell, and step.
func (b *builder) ask() api.Errno {
	if b.meter == nil {
		return api.OK
	}
	if !b.meter.Take(1) {
		return api.ErrMem
	}
	b.taken++
	if !b.meter.Step(1) {
		return api.ErrSteps
	}
	return api.OK
}
