package closure_test

import (
	"testing"

	"sieve/api"
	"sieve/meter"
)

// P15.1: automata with many states, also more than a sparse set may be over: all cells are taken, and each state is met once.
func TestWide(t *testing.T) {
	for _, many := range []int{1<<16 - 4, 1<<16 - 3, 1<<16 - 2, 1 << 17, 3<<16 + 5} {
		auto := build(t, alt(rowOf(a, many)...))
		n := auto.Len()
		m := meter.New(2*n, 1<<22)
		x := closer(t, auto, m)
		for range 2 {
			m.Begin(1 << 22)
			start, e := x.Start()
			if e != api.OK || len(start) != many {
				t.Fatalf("got %d states, %d", len(start), e)
			}
			is(t, m, 2*n, many+2, api.OK)
			got, e := x.Step(start, 'a')
			answers(t, got, e, end(auto, 0))
			is(t, m, 2*n, 2*many+3, api.OK)
			got, e = x.Step(all(n), 'b')
			answers(t, got, e)
			is(t, m, 2*n, 2*many+3+n, api.OK)
		}
		if x.Accept(all(n)) != 0 || x.Accept(all(n-1)) == x.Accept([]int{n - 1}) {
			t.Error("another rule is accepted")
		}
		got, e := x.Step([]int{n}, 'a')
		refused(t, got, e, api.ErrArg)
		x.Drop()
		is(t, m, 0, 2*many+3+n, api.OK)
	}
}

// P15.1: one behind the other, far from the first state: only what is met costs steps.
func TestLong(t *testing.T) {
	const many = 1 << 18
	auto := build(t, cat(rowOf(a, many)...))
	m := meter.New(api.MaxCells, api.MaxSteps)
	x := closer(t, auto, m)
	position, e := x.Start()
	for range many {
		position, e = x.Step(position, 'a')
		if e != api.OK || len(position) != 1 {
			t.Fatalf("got %d, %d", position, e)
		}
	}
	answers(t, position, e, end(auto, 0))
	is(t, m, 2*auto.Len(), 2+2*many, api.OK)
}

// P15.1: rings within one another, and rows of what may be empty, however deep and long.
func TestDeep(t *testing.T) {
	const deep = 1 << 17
	for _, c := range []struct {
		n                  api.Node
		met, start, behind int // how many are met at the beginning, how many that position has, and how many are met behind the byte a
	}{
		{nested(a, deep, star), deep + 3, 2, deep + 2},
		{nested(empty, deep, star), deep + 2, 1, 0},
		{nested(a, deep, func(n api.Node) api.Node { return alt(empty, n) }), deep + 3, 2, 1},
		{nested(a, deep, func(n api.Node) api.Node { return cat(star(b), n) }), 2*deep + 2, deep + 1, 1},
		{cat(rowOf(alt(empty, empty), deep)...), deep + 2, 1, 0},
		{cat(rowOf(alt(a, star(empty)), deep)...), 3*deep + 2, deep + 1, 3*deep - 2},
	} {
		auto := build(t, c.n)
		m := meter.New(2*auto.Len(), 1<<22)
		x := closer(t, auto, m)
		start, e := x.Start()
		if e != api.OK || len(start) != c.start {
			t.Fatalf("got %d states, %d", len(start), e)
		}
		is(t, m, 2*auto.Len(), c.met, api.OK)
		m.Begin(1 << 22)
		if _, e = x.Step(start, 'a'); e != api.OK {
			t.Errorf("got %d", e)
		}
		is(t, m, 2*auto.Len(), c.start+c.behind, api.OK)
	}
}

// P15.1: many ways to the same states, each met once.
func TestManyWays(t *testing.T) {
	ways := alt(rowOf(empty, 1000)...)
	auto := build(t, star(cat(rowOf(ways, 200)...)), nested(ways, 10, func(n api.Node) api.Node { return star(alt(n, n)) }))
	m := meter.New(api.MaxCells, api.MaxSteps)
	x := closer(t, auto, m)
	start, e := x.Start()
	answers(t, start, e, sorted(end(auto, 0), end(auto, 1))...)
	is(t, m, 2*auto.Len(), auto.Len(), api.OK)
}
