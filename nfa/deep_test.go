package nfa_test

import (
	"testing"

	"sieve/api"
	"sieve/meter"
	"sieve/nfa"
	"sieve/sample"
)

// tried: so many states are told of the expression, and built; with a small meter it is refused.
func tried(t *testing.T, n api.Node, states int) {
	t.Helper()
	if got := nfa.States(n); got != states {
		t.Errorf("got %d states, want %d", got, states)
	}
	auto, e := nfa.Build(nil, a, n)
	if e != api.OK || auto.Len() != states+4 {
		t.Errorf("got %d states, %d, want %d", auto.Len(), e, states+4)
	}
	if states > 100 {
		short(t, n)
	}
}

// short: of more than 100 states none are built with 100 cells, or steps.
func short(t *testing.T, n api.Node) {
	t.Helper()
	m := meter.New(100, 1<<20)
	if auto, e := nfa.Build(m, n, b); auto != nil || e != api.ErrMem {
		t.Errorf("got %d", e)
	}
	is(t, m, 0, 100, 100, api.ErrMem)
	m = meter.New(1<<20, 100)
	if auto, e := nfa.Build(m, n, b); auto != nil || e != api.ErrSteps {
		t.Errorf("got %d", e)
	}
	is(t, m, 0, 101, 100, api.ErrSteps)
}

// P14.1, P14.2: expressions that are as wide and as deep as may be handed in.
func TestWideAndDeep(t *testing.T) {
	t.Parallel()
	const many = 1 << 17
	tried(t, cat(rowOf(a, many)...), many)
	tried(t, alt(rowOf(a, many)...), many+1)
	tried(t, alt(rowOf(empty, many)...), 1)
	tried(t, cat(rowOf(empty, many)...), 0)
	for _, deep := range []int{1000, many} {
		tried(t, nested(a, deep, star), deep+1)
		tried(t, nested(a, deep, func(n api.Node) api.Node { return cat(n, b) }), deep+1)
		tried(t, nested(a, deep, func(n api.Node) api.Node { return cat(empty, n) }), 1)
		tried(t, nested(empty, deep, func(n api.Node) api.Node { return cat(n, empty) }), 0)
		tried(t, nested(a, deep, func(n api.Node) api.Node { return alt(empty, n) }), deep+1)
		tried(t, nested(empty, deep, func(n api.Node) api.Node { return alt(n, b) }), 2*deep)
	}
	tried(t, nested(empty, 1<<20, star), 1<<20)
	if nfa.States(nested(sample.Rep(a, 0, 1), many, star)) != 0 {
		t.Error("what isn't plain takes states")
	}
	isRefused(t, a, nested(sample.Rep(a, 0, 1), many, star))
}

// P14.1: a deep expression accepts what it matches.
func TestDeepAccepts(t *testing.T) {
	n := nested(a, 3000, func(n api.Node) api.Node { return star(alt(cat(n, empty), empty)) })
	list := []api.Node{n, nested(cat(b, a), 3000, star)}
	auto := build(t, list...)
	sound(t, auto, list)
	w := ways(statesOf(t, auto))
	for from, want := range [][][]int{{{0, 1, 2}, {0}}, {{1, 2}, {1}}, {{2}, {2, 4}}, {{3, 4}, {3}}, {{4}, {4}}} {
		for rule, got := range w.accepted(0, "aaba", from, 2) {
			if len(got) != len(want[rule]) || got[len(got)-1] != want[rule][len(got)-1] {
				t.Errorf("rule %d from %d: got %d, want %d", rule, from, got, want[rule])
			}
		}
	}
}

// P14.1, P14.2: a list that stands in many places takes states in each of them; that they are counted, or refused, doesn't take the time of all.
func TestShared(t *testing.T) {
	t.Parallel()
	twice := func(n api.Node) api.Node { return cat(n, n) }
	either := func(n api.Node) api.Node { return alt(n, n) }
	for _, deep := range []int{1, 2, 10, 18} {
		tried(t, nested(a, deep, twice), 1<<deep)
		tried(t, nested(a, deep, either), 1<<deep+1<<deep-1)
		tried(t, nested(empty, deep, either), 1<<deep-1)
	}
	for _, deep := range []int{30, 60} {
		if got := nfa.States(nested(a, deep, twice)); got != 1<<deep {
			t.Errorf("got %d, want 2^%d", got, deep)
		}
	}
	tried(t, nested(empty, 1000, twice), 0)
	tried(t, nested(cat(empty, a), 1000, func(n api.Node) api.Node { return cat(nested(empty, 1000, twice), n) }), 1)
	for _, deep := range []int{40, 62, 63, 64, 65, 1000} {
		for _, n := range []api.Node{nested(a, deep, twice), nested(a, deep, either), nested(star(empty), deep, twice)} {
			short(t, n)
			if auto, e := nfa.Build(nil, n); auto != nil || e != api.ErrMem {
				t.Errorf("got %d", e)
			}
			if auto, e := nfa.Build(nil, rowOf(n, 8)...); auto != nil || e != api.ErrMem {
				t.Errorf("got %d", e)
			}
			if nfa.States(n) < 1<<40 {
				t.Errorf("got %d states", nfa.States(n))
			}
		}
	}
}

// P14.1: an expression that holds itself isn't plain.
func TestEndless(t *testing.T) {
	for _, kind := range []int{api.Cat, api.Alt} {
		subs := []api.Node{a, {Kind: kind}}
		subs[1].Subs = subs
		isRefused(t, subs[1])
		isRefused(t, a, star(subs[1]), b)
		if nfa.States(subs[1]) != 0 {
			t.Error("it takes states")
		}
	}
}
