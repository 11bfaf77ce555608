package nfa_test

import (
	"math"
	"reflect"
	"slices"
	"testing"

	"sieve/api"
	"sieve/meter"
	"sieve/nfa"
	"sieve/sample"
)

var places = []int{math.MinInt, -2, -1, 0, 1, 2, 5, 100, math.MaxInt}

// P14.2: of a nil automaton.
func TestNil(t *testing.T) {
	var auto *nfa.Auto
	m := used(5, 5, 5, 5)
	auto.Drop(m)
	auto.Drop(nil)
	is(t, m, 5, 5, 5, api.OK)
	isEmpty(t, auto)
	if auto.Rules() != 0 {
		t.Errorf("got %d rules", auto.Rules())
	}
}

// isEmpty: it has no states.
func isEmpty(t *testing.T, auto *nfa.Auto) {
	t.Helper()
	if auto.Len() != 0 || auto.Sets() != nil {
		t.Errorf("got %d states, sets %x", auto.Len(), auto.Sets())
	}
	for _, i := range places {
		isOutside(t, auto, i)
	}
}

// P14.2: one that wasn't built has no states, nor rules.
func TestZero(t *testing.T) {
	auto := new(nfa.Auto)
	m := used(5, 5, 5, 5)
	isEmpty(t, auto)
	auto.Drop(m)
	is(t, m, 5, 5, 5, api.OK)
	if auto.Rules() != 0 {
		t.Errorf("got %d rules", auto.Rules())
	}
}

// P14.2: each place among the states, at the ends, and beyond.
func TestState(t *testing.T) {
	for many := 1; many <= 8; many++ {
		auto := build(t, rowOf(alt(cat(a, b), star(c)), many)...)
		for i := -20; i < auto.Len()+20; i++ {
			s, ok := auto.State(i)
			if ok != (i >= 0 && i < auto.Len()) {
				t.Errorf("state %d of %d: got %t", i, auto.Len(), ok)
			}
			if !ok && !reflect.DeepEqual(s, outside) {
				t.Errorf("state %d of %d: got %v", i, auto.Len(), s)
			}
		}
	}
}

// P14.1, P14.2: what the states are of one that has each kind.
func TestStatesOfEachKind(t *testing.T) {
	auto := build(t, cat(a, empty, alt(nothing, empty)), star(anyByte))
	w := statesOf(t, auto)
	if len(w) != 1+4+3 || len(w[0].Eps) != 2 {
		t.Fatalf("got %v", w)
	}
	class := w[w[0].Eps[0]]
	if class.Set != a.Set || class.To < 0 || class.Accept != -1 || class.Eps != nil {
		t.Fatalf("a Class: got %v", class)
	}
	either := w[class.To]
	if either.Set != (api.Set{}) || either.To != -1 || either.Accept != -1 || len(either.Eps) != 2 {
		t.Fatalf("an Alt: got %v", either)
	}
	none, end := w[either.Eps[0]], either.Eps[1]
	if none.Set != (api.Set{}) || none.To != end || none.Accept != -1 || none.Eps != nil {
		t.Errorf("a Class of the empty set: got %v", none)
	}
	if !reflect.DeepEqual(w[end], nfa.State{To: -1, Accept: 0}) {
		t.Errorf("what accepts: got %v", w[end])
	}
	loop := w[w[0].Eps[1]]
	if loop.Set != (api.Set{}) || loop.To != -1 || loop.Accept != -1 || len(loop.Eps) != 2 {
		t.Fatalf("a Rep: got %v", loop)
	}
	once := w[loop.Eps[0]]
	if once.Set != anyByte.Set || once.To != w[0].Eps[1] || once.Accept != -1 || once.Eps != nil {
		t.Errorf("a Rep's Sub: got %v", once)
	}
	if !reflect.DeepEqual(w[loop.Eps[1]], nfa.State{To: -1, Accept: 1}) {
		t.Errorf("what accepts: got %v", w[loop.Eps[1]])
	}
}

// P14.2: sets where there are none, one, the empty one, the same ones, many.
func TestSetsInOrder(t *testing.T) {
	for _, list := range [][]api.Node{{empty}, {star(empty), alt(empty, empty)}, rowOf(empty, 8)} {
		if got := build(t, list...).Sets(); got != nil {
			t.Errorf("got %x", got)
		}
	}
	for _, list := range [][]api.Node{{a}, {nothing}, {nothing, nothing}, {a, nothing, a}, {star(alt(cat(a, nothing, b), anyByte)), empty, c, cat(c, b, a)}, rowOf(cat(a, nothing), 8)} {
		auto := build(t, list...)
		sound(t, auto, list)
		if got, want := sorted(auto.Sets()), sorted(setsOf(list)); !slices.Equal(got, want) {
			t.Errorf("got %x, want %x", got, want)
		}
	}
}

func setsOf(list []api.Node) (sets []api.Set) {
	for _, n := range list {
		if n.Kind == api.Class {
			sets = append(sets, n.Set)
		}
		sets = append(sets, setsOf(n.Subs)...)
	}
	return sets
}

func sorted(list []api.Set) []api.Set {
	slices.SortFunc(list, func(x, y api.Set) int { return slices.Compare(x[:], y[:]) })
	return list
}

// P14.2: as many cells are given back as there were states, the first time, to the meter that is handed in.
func TestDrop(t *testing.T) {
	for _, list := range [][]api.Node{{empty}, {a}, {alt(a, star(b)), cat(a, b, c)}, rowOf(star(a), 8)} {
		for i := range 4 {
			m, other := used(50, 50, 3, 0), used(50, 50, 40, 0)
			auto, e := nfa.Build(m, list...)
			if e != api.OK {
				t.Fatal(e)
			}
			states := auto.Len()
			is(t, m, 3+states, 3+states, states, api.OK)
			given, otherGiven := 0, 0
			switch i {
			case 0:
				auto.Drop(m)
				given = states
			case 1:
				auto.Drop(other)
				otherGiven = states
			case 2:
				auto.Drop(nil)
			case 3:
				auto.Drop(meter.New(1, 1))
			}
			for range 3 {
				isEmpty(t, auto)
				if auto.Rules() != len(list) {
					t.Errorf("got %d rules", auto.Rules())
				}
				is(t, m, 3+states-given, 3+states, states, api.OK)
				is(t, other, 40-otherGiven, 40, 0, api.OK)
				auto.Drop(m)
				auto.Drop(other)
				auto.Drop(nil)
			}
		}
	}
}

// P14.2: one that took from no meter gives to that of its Drop all the same.
func TestDropOfNoMeter(t *testing.T) {
	m := used(0, 0, 10, 0)
	auto := build(t, a, b)
	auto.Drop(m)
	is(t, m, 5, 10, 0, api.OK)
	auto.Drop(m)
	is(t, m, 5, 10, 0, api.OK)
}

// P14.2: what was answered is new each time: changing it changes nothing.
func TestAnswersAreNew(t *testing.T) {
	list := []api.Node{alt(a, star(b)), star(cat(a, nothing)), empty}
	auto := build(t, list...)
	want, sets := statesOf(t, auto), auto.Sets()
	for i := range want {
		s, _ := auto.State(i)
		for j := range s.Eps {
			s.Eps[j] = -7
		}
		_ = append(s.Eps, 1, 2, 3)
		s.Set[0], s.To, s.Accept = 5, 5, 5
		blotted := auto.Sets()
		for j := range blotted {
			blotted[j] = sample.Set("blot")
		}
		_ = append(blotted, api.Set{})
		if got := statesOf(t, auto); !reflect.DeepEqual(got, want) || !slices.Equal(auto.Sets(), sets) {
			t.Errorf("got %v, want %v", got, want)
		}
	}
	sound(t, auto, list)
	auto.Drop(nil)
	if !reflect.DeepEqual(want, statesOf(t, build(t, list...))) {
		t.Error("what was answered changed")
	}
}

// P14.2: of plain expressions of each kind; 0 of what isn't plain.
func TestStates(t *testing.T) {
	for want, list := range map[int][]api.Node{
		0: {empty, cat(empty, empty), cat(empty, cat(empty, empty), empty), {}, cat(), cat(a), alt(), alt(a), {Kind: api.Rep, Max: -1}, sample.Rep(a, 1, -1), sample.Rep(a, 0, 0), sample.Rep(empty, 2, 2), cat(a, api.Node{Kind: 9}), alt(a, b, api.Node{}), star(star(sample.Rep(a, 0, 1)))},
		1: {a, nothing, anyByte, cat(a, empty), cat(empty, nothing), star(empty), alt(empty, empty), alt(rowOf(empty, 100)...)},
		2: {cat(a, b), star(a), star(star(empty)), alt(a, empty), alt(star(empty), empty), cat(a, empty, cat(empty, a))},
		3: {cat(a, b, c), alt(a, a), star(star(a)), cat(star(a), b), star(cat(a, a)), alt(empty, empty, cat(a, a))},
		4: {sample.Of("a|b*"), alt(a, b, c), star(alt(a, b)), cat(star(a), star(b))},
		7: {alt(cat(a, b), cat(a, c), star(empty), cat(b, empty)), star(alt(a, star(star(alt(b, empty)))))},
	} {
		for _, n := range list {
			handed := sample.Roomy([]api.Node{n})
			before := sample.MemoryOf(handed)
			if got := nfa.States(handed[0]); got != want {
				t.Errorf("%s: got %d, want %d", sample.Name(n), got, want)
			}
			if !before.Is(handed) {
				t.Error("what was handed in isn't as it was")
			}
		}
	}
}
