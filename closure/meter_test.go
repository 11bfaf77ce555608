package closure_test

import (
	"testing"

	"sieve/api"
	"sieve/closure"
	"sieve/meter"
	"sieve/nfa"
	"sieve/sample"
)

// used is a meter with room for so much, of which so much was taken, and done, ahead.
func used(cells, steps, taken, done int) *meter.Meter {
	m := meter.New(cells+taken, steps+done)
	m.Take(taken)
	m.Step(done)
	return m
}

// is: that much is taken of the meter, that much is done, and that was refused.
func is(t *testing.T, m *meter.Meter, taken, done int, refused api.Errno) {
	t.Helper()
	gotTaken, _, _ := m.Cells()
	gotDone, _ := m.Steps()
	if gotTaken != taken || gotDone != done || m.Err() != refused {
		t.Errorf("got %d taken, %d done, %d refused; want %d, %d, %d", gotTaken, gotDone, m.Err(), taken, done, refused)
	}
}

// P15.1: of a nil automaton there is none, whatever the meter, of which nothing is asked.
func TestNewOfNil(t *testing.T) {
	for _, m := range []*meter.Meter{nil, new(meter.Meter), meter.New(0, 0), meter.New(100, 100)} {
		if x, e := closure.New(nil, m); x != nil || e != api.ErrNil {
			t.Errorf("got %v, %d", x, e)
		}
		if m != nil {
			is(t, m, 0, 0, api.OK)
		}
	}
}

// P15.1: of an automaton without states there is one, that takes nothing, and has no position.
func TestNewOfDropped(t *testing.T) {
	dropped := build(t, a, star(b))
	dropped.Drop(nil)
	for _, auto := range []*nfa.Auto{dropped, new(nfa.Auto)} {
		for _, m := range []*meter.Meter{nil, meter.New(0, 0), meter.New(10, 10)} {
			x := closer(t, auto, m)
			for range 2 {
				got, e := x.Start()
				answers(t, got, e)
				got, e = x.Step(nil, 'a')
				answers(t, got, e)
				for _, from := range [][]int{{0}, {1}, {-1}, {0, 1}} {
					got, e = x.Step(from, 'a')
					refused(t, got, e, api.ErrArg)
				}
				if got := x.Accept([]int{0, 1, 2, -1}); got != -1 {
					t.Errorf("got %d", got)
				}
			}
			x.Drop()
			got, e := x.Start()
			refused(t, got, e, api.ErrNil)
			if m != nil {
				is(t, m, 0, 0, api.OK)
			}
		}
	}
}

// P15.1: just 2 times Len cells, one less, one more, none, and any between; some may be taken ahead.
func TestCells(t *testing.T) {
	for _, list := range some() {
		auto := build(t, list...)
		need := 2 * auto.Len()
		for _, cells := range []int{0, 1, 2, auto.Len(), need - 2, need - 1, need, need + 1, need + 100} {
			for _, taken := range []int{0, 1, need, 1000} {
				m := used(cells, 10, taken, 3)
				x, e := closure.New(auto, m)
				if cells < need {
					if x != nil || e != api.ErrMem {
						t.Errorf("%d cells of %d: got %v, %d", cells, need, x, e)
					}
					is(t, m, taken, 3, api.ErrMem)
					continue
				}
				if x == nil || e != api.OK {
					t.Fatalf("%d cells of %d: got %v, %d", cells, need, x, e)
				}
				is(t, m, taken+need, 3, api.OK)
				for range 3 {
					x.Drop()
					is(t, m, taken, 3, api.OK)
				}
			}
		}
	}
}

// P15.1: what is refused isn't taken in part.
func TestCellsAtOnce(t *testing.T) {
	auto := build(t, alt(rowOf(a, 1<<17)...))
	m := meter.New(2*auto.Len()-1, 0)
	if x, e := closure.New(auto, m); x != nil || e != api.ErrMem {
		t.Errorf("got %v, %d", x, e)
	}
	if used, most, _ := m.Cells(); used != 0 || most != 0 {
		t.Errorf("got %d taken, %d at most", used, most)
	}
}

// costs: the call needs so many steps: with as many it answers, with fewer it is refused, having done all that there were.
func costs(t *testing.T, auto *nfa.Auto, need int, want []int, call func(x *closure.Closer) ([]int, api.Errno)) {
	t.Helper()
	cells := 2 * auto.Len()
	for _, done := range []int{0, 5} {
		for _, steps := range []int{0, 1, 2, need / 2, need - 2, need - 1, need, need + 1, need + 100} {
			if steps < 0 {
				continue
			}
			m := used(cells, steps, 0, done)
			x := closer(t, auto, m)
			got, e := call(x)
			if steps >= need {
				answers(t, got, e, want...)
				is(t, m, cells, done+need, api.OK)
				continue
			}
			refused(t, got, e, api.ErrSteps)
			is(t, m, cells, done+steps, api.ErrSteps)
			m.Begin(need)
			got, e = call(x)
			answers(t, got, e, want...)
			is(t, m, cells, need, api.OK)
			got, e = call(x)
			if need > 0 {
				refused(t, got, e, api.ErrSteps)
			}
		}
	}
}

// P15.1: one step for each state that is met, told by hand: those that are reached twice, or in a ring over nothing, too.
func TestStepsByHand(t *testing.T) {
	for _, c := range []struct {
		list        []api.Node
		start, over int // from the beginning; from there over the byte a
	}{
		{[]api.Node{empty}, 2, 1},
		{[]api.Node{nothing}, 2, 1},
		{[]api.Node{a}, 2, 1 + 1},
		{[]api.Node{b}, 2, 1},
		{[]api.Node{a, a, a}, 4, 3 + 3},
		{[]api.Node{cat(star(a), b)}, 4, 2 + 3},
		{[]api.Node{alt(a, a)}, 4, 2 + 1},
		{[]api.Node{alt(empty, empty, empty)}, 3, 1},
		{[]api.Node{alt(cat(a, b), cat(a, c), a)}, 5, 3 + 3},
		{[]api.Node{star(empty)}, 3, 1},
		{[]api.Node{star(star(empty))}, 4, 1},
		{[]api.Node{star(star(a))}, 5, 2 + 4},
		{[]api.Node{star(alt(a, empty))}, 5, 2 + 4},
		{[]api.Node{star(alt(star(a), empty, star(b)))}, 8, 3 + 7},
		{[]api.Node{cat(alt(a, empty), alt(a, empty), alt(a, empty))}, 8, 4 + 5},
		{rowOf(star(a), 8), 25, 16 + 24},
	} {
		auto := build(t, c.list...)
		w := waysOf(auto)
		costs(t, auto, c.start, w.start(), (*closure.Closer).Start)
		costs(t, auto, c.over, w.step(w.start(), 'a'), func(x *closure.Closer) ([]int, api.Errno) {
			return x.Step(w.start(), 'a')
		})
		costs(t, auto, len(w.start()), nil, func(x *closure.Closer) ([]int, api.Errno) {
			return x.Step(w.start(), '!')
		})
	}
}

// P15.1: and told by the model, from some states over some bytes.
func TestStepsByModel(t *testing.T) {
	t.Parallel()
	for _, list := range some() {
		auto := build(t, list...)
		w := waysOf(auto)
		costs(t, auto, len(w.closed([]int{0})), w.start(), (*closure.Closer).Start)
		every := all(auto.Len())
		for _, from := range [][]int{nil, every, every[:1], every[len(every)/2:], every[len(every)-1:], w.start()} {
			for _, over := range []byte{0, 'a', 'b', '1', 255} {
				need := len(from) + len(w.closed(w.behind(from, over)))
				costs(t, auto, need, w.step(from, over), func(x *closure.Closer) ([]int, api.Errno) {
					return x.Step(from, over)
				})
			}
		}
	}
}

// P15.1, P15.2: a nil meter is asked nothing, and Accept and Drop ask for no step of any.
func TestNoSteps(t *testing.T) {
	auto := build(t, star(alt(a, star(b))), c)
	m := used(2*auto.Len(), 0, 0, 0)
	x, free := closer(t, auto, m), closer(t, auto, nil)
	for range 3 {
		got, e := free.Start()
		answers(t, got, e, waysOf(auto).start()...)
		if x.Accept(got) != 0 || x.Accept([]int{end(auto, 1)}) != 1 {
			t.Error("nothing is accepted")
		}
		got, e = x.Step(nil, 'a')
		answers(t, got, e)
	}
	is(t, m, 2*auto.Len(), 0, api.OK)
	x.Drop()
	free.Drop()
	is(t, m, 0, 0, api.OK)
}

// P15.1: what is answered hangs on no refusal ahead.
func TestAfterRefusals(t *testing.T) {
	auto := build(t, cat(star(alt(a, b)), a, b), star(c))
	w := waysOf(auto)
	m := used(2*auto.Len(), 0, 0, 0)
	x := closer(t, auto, m)
	for steps := range 40 {
		m.Begin(steps)
		x.Start()
		m.Begin(steps)
		x.Step(all(auto.Len()), 'a')
		m.Begin(100)
		got, e := x.Start()
		answers(t, got, e, w.start()...)
		x.Step([]int{5, 4}, 'a')
		got, e = x.Step(got, 'a')
		answers(t, got, e, w.step(w.start(), 'a')...)
	}
}

// P15.2: cells are given back once, to the meter that they are of; Start and Step end then, whatever they are asked, and ask no step.
func TestDrop(t *testing.T) {
	for _, list := range some() {
		auto := build(t, list...)
		n := auto.Len()
		m := used(6*n, 1000, 9, 0)
		x, y := closer(t, auto, m), closer(t, auto, m)
		is(t, m, 4*n+9, 0, api.OK)
		start, _ := x.Start()
		done, _ := m.Steps()
		for range 3 {
			x.Drop()
			is(t, m, 2*n+9, done, api.OK)
			got, e := x.Start()
			refused(t, got, e, api.ErrNil)
			for _, from := range [][]int{nil, {0}, start, {-1}, {1, 0}, {n}} {
				got, e := x.Step(from, 'a')
				refused(t, got, e, api.ErrNil)
			}
			is(t, m, 2*n+9, done, api.OK)
			m.Take(n)
			x.Drop()
			m.Give(n)
			is(t, m, 2*n+9, done, api.OK)
		}
		got, e := y.Start()
		answers(t, got, e, start...)
		y.Drop()
		is(t, m, 9, 2*done, api.OK)
		if waysOf(auto).differs(auto) || auto.Len() != n {
			t.Error("the automaton went, too")
		}
	}
}

// P15.2: Accept isn't among what ends with Drop.
func TestAcceptBehindDrop(t *testing.T) {
	auto := build(t, a, empty)
	x := closer(t, auto, nil)
	for range 3 {
		if got := x.Accept([]int{end(auto, 1), 0}); got != 1 {
			t.Errorf("got %d", got)
		}
		x.Drop()
	}
}

// P15.2: a closer goes also if others gave back what it took.
func TestDropOfLittle(t *testing.T) {
	auto := build(t, a, b)
	m := meter.New(100, 100)
	x := closer(t, auto, m)
	m.Give(3)
	x.Drop()
	is(t, m, 2*auto.Len()-3, 0, api.OK)
	got, e := x.Start()
	refused(t, got, e, api.ErrNil)
	m.Take(50)
	x.Drop()
	is(t, m, 2*auto.Len()+47, 0, api.OK)
}

// P15.1: the automaton that was handed in is used: when it has no states any more, no closer of it meets any; what that took is given back all the same.
func TestAutomatonDropped(t *testing.T) {
	auto := build(t, cat(a, b), star(c))
	n := auto.Len()
	m := used(2*n, 100, 0, 0)
	x := closer(t, auto, m)
	start, _ := x.Start()
	m.Begin(100)
	auto.Drop(nil)
	got, e := x.Start()
	answers(t, got, e)
	got, e = x.Step(nil, 'a')
	answers(t, got, e)
	got, e = x.Step(start, 'a')
	refused(t, got, e, api.ErrArg)
	if x.Accept(all(n)) != -1 {
		t.Error("what isn't there accepts")
	}
	is(t, m, 2*n, 0, api.OK)
	x.Drop()
	is(t, m, 0, 0, api.OK)
}

// P15.1: closers that share an automaton and a meter are apart but for the steps that are left.
func TestTwoClosers(t *testing.T) {
	auto, other := build(t, cat(star(a), b), c), build(t, sample.Class("ab"))
	w, v := waysOf(auto), waysOf(other)
	m := meter.New(1000, 1000)
	x, y, z := closer(t, auto, m), closer(t, auto, m), closer(t, other, m)
	for range 3 {
		one, e := x.Start()
		answers(t, one, e, w.start()...)
		two, e := z.Start()
		answers(t, two, e, v.start()...)
		got, e := y.Step(one, 'a')
		answers(t, got, e, w.step(one, 'a')...)
		got, e = z.Step(two, 'a')
		answers(t, got, e, v.step(two, 'a')...)
		got, e = x.Step(one, 'b')
		answers(t, got, e, w.step(one, 'b')...)
	}
	done, _ := m.Steps()
	m.Step(1000 - done)
	for _, one := range []*closure.Closer{x, y, z} {
		got, e := one.Start()
		refused(t, got, e, api.ErrSteps)
	}
}
