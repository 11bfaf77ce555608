package nfa_test

import (
	"reflect"
	"testing"

	"sieve/api"
	"sieve/meter"
	"sieve/nfa"
)

// used is a meter with room for so much, of which so much was taken, and done, ahead.
func used(cells, steps, taken, done int) *meter.Meter {
	m := meter.New(cells+taken, steps+done)
	m.Take(taken)
	m.Step(done)
	return m
}

// is: that much is taken of the meter now, and was at most; that much is done; that was refused.
func is(t *testing.T, m *meter.Meter, taken, most, done int, refused api.Errno) {
	t.Helper()
	gotTaken, gotMost, _ := m.Cells()
	gotDone, _ := m.Steps()
	if gotTaken != taken || gotMost != most || gotDone != done || m.Err() != refused {
		t.Errorf("got %d taken, %d at most, %d done, %d refused; want %d, %d, %d, %d", gotTaken, gotMost, gotDone, m.Err(), taken, most, done, refused)
	}
}

// costs: with so many cells and steps left the rules are built just if there are as many as states, each asked for its cell, then for its step.
func costs(t *testing.T, cells, steps, taken, done int, list ...api.Node) {
	t.Helper()
	m, states := used(cells, steps, taken, done), takesAll(list)
	auto, e := nfa.Build(m, list...)
	switch {
	case cells < states && cells <= steps:
		if auto != nil || e != api.ErrMem {
			t.Errorf("%d cells, %d steps for %d states: got %d", cells, steps, states, e)
		}
		is(t, m, taken, taken+cells, done+cells, api.ErrMem)
	case steps < states:
		if auto != nil || e != api.ErrSteps {
			t.Errorf("%d cells, %d steps for %d states: got %d", cells, steps, states, e)
		}
		is(t, m, taken, taken+steps+1, done+steps, api.ErrSteps)
	default:
		if e != api.OK {
			t.Fatalf("%d cells, %d steps for %d states: got %d", cells, steps, states, e)
		}
		is(t, m, taken+states, taken+states, done+states, api.OK)
		if !reflect.DeepEqual(statesOf(t, auto), statesOf(t, build(t, list...))) {
			t.Error("with a meter it is another automaton")
		}
		auto.Drop(m)
		is(t, m, taken, taken+states, done+states, api.OK)
	}
}

// P14.1: as many cells, and steps, as there are states, one less, none, and any between; some may be taken ahead.
func TestCosts(t *testing.T) {
	t.Parallel()
	for _, n := range some() {
		for _, list := range [][]api.Node{{n}, {n, a}, {alt(a, b), n}, {n, n, n}, {n, empty, star(n), b, n, cat(a, n), n, n}} {
			states := takesAll(list)
			for _, left := range []int{0, 1, 2, 3, states / 2, states - 2, states - 1, states, states + 1} {
				for _, other := range []int{0, 1, left - 1, left, left + 1, states - 1, states, 1 << 19} {
					costs(t, left, max(other, 0), 0, 0, list...)
					costs(t, max(other, 0), left, 5, 7, list...)
				}
			}
		}
	}
}

// P14.1: of a meter that refused before, that keeps what it noted first.
func TestRefusedBefore(t *testing.T) {
	m := meter.New(10, 10)
	m.Step(11)
	if auto, e := nfa.Build(m, a, b, c, a, b, c); auto != nil || e != api.ErrMem {
		t.Errorf("got %d", e)
	}
	is(t, m, 0, 10, 10, api.ErrSteps)
	if auto, e := nfa.Build(m, a); auto != nil || e != api.ErrSteps {
		t.Errorf("got %d", e)
	}
	is(t, m, 0, 10, 10, api.ErrSteps)
	m.Begin(3)
	if auto, e := nfa.Build(m, a); auto.Len() != 3 || e != api.OK {
		t.Errorf("got %d", e)
	}
	is(t, m, 3, 10, 3, api.OK)
}

// P14.1: two automata on one meter are apart, and each one's cells are given back by its own Drop.
func TestOneMeter(t *testing.T) {
	m := meter.New(20, 100)
	first, _ := nfa.Build(m, a, star(b))
	second, _ := nfa.Build(m, cat(a, b, c))
	is(t, m, 11, 11, 11, api.OK)
	if third, e := nfa.Build(m, alt(rowOf(a, 20)...)); third != nil || e != api.ErrMem {
		t.Errorf("got %d", e)
	}
	is(t, m, 11, 20, 20, api.ErrMem)
	sound(t, first, []api.Node{a, star(b)})
	first.Drop(m)
	is(t, m, 5, 20, 20, api.ErrMem)
	sound(t, second, []api.Node{cat(a, b, c)})
	first.Drop(m)
	second.Drop(m)
	is(t, m, 0, 20, 20, api.ErrMem)
}

// P14.1: a meter that is nil is asked nothing, however many states there are.
func TestNilMeter(t *testing.T) {
	var m *meter.Meter
	for _, n := range []api.Node{a, cat(rowOf(a, 1<<20+5)...), alt(rowOf(star(b), 1<<19)...)} {
		auto, e := nfa.Build(m, n, n)
		if e != api.OK || auto.Len() != takesAll([]api.Node{n, n}) {
			t.Errorf("got %d", e)
		}
	}
}
