package nfa_test

import (
	"math"
	"reflect"
	"slices"
	"testing"

	"sieve/api"
	"sieve/expand"
	"sieve/meter"
	"sieve/nfa"
	"sieve/sample"
)

var (
	empty, nothing, anyByte = sample.Empty(), sample.Class(""), sample.Any()
	a, b, c                 = sample.Class("a"), sample.Class("b"), sample.Class("c")
	cat, alt, star          = sample.Cat, sample.Alt, sample.Star
	rowOf, nested           = sample.Row, sample.Nested
	outside                 = nfa.State{To: -1, Accept: -1} // what is no state
)

// some has plain expressions of each kind, that match the empty text and that don't, and nothing.
func some() []api.Node {
	return []api.Node{
		empty, nothing, a, anyByte,
		cat(a, b), cat(a, b, c, a), cat(empty, empty), cat(nothing, a), cat(a, empty, b), cat(cat(a, b), cat(c, empty)), cat(rowOf(a, 30)...), cat(rowOf(empty, 30)...),
		alt(a, b), alt(a, b, c, a), alt(empty, empty), alt(a, empty), alt(nothing, nothing), alt(cat(a, b), cat(a, c)), alt(alt(a, cat(a, a)), alt(empty, b)), alt(rowOf(a, 30)...), alt(rowOf(empty, 30)...),
		star(a), star(empty), star(nothing), star(anyByte), star(cat(a, b)), star(alt(a, empty)), star(alt(a, cat(b, a))), star(cat(star(a), star(b))), star(cat(empty, empty)), star(alt(empty, empty)),
		star(star(a)), star(star(empty)), star(star(star(alt(a, empty)))), star(cat(a, star(cat(b, star(c))))),
		cat(star(a), b), cat(star(a), star(a)), cat(star(alt(a, b)), a, b, b), alt(a, star(b)), alt(star(a), star(b), empty), cat(alt(a, empty), alt(b, empty), c),
	}
}

// build: the automaton of these, without a meter.
func build(t *testing.T, list ...api.Node) *nfa.Auto {
	t.Helper()
	a, e := nfa.Build(nil, list...)
	if e != api.OK || a == nil {
		t.Fatalf("%d rules: got %d", len(list), e)
	}
	return a
}

// statesOf has all that State answers.
func statesOf(t *testing.T, a *nfa.Auto) (list []nfa.State) {
	t.Helper()
	for i := range a.Len() {
		s, ok := a.State(i)
		if !ok {
			t.Fatalf("no state %d of %d", i, a.Len())
		}
		list = append(list, s)
	}
	return list
}

// takes is how many states the expression takes, by the chapter's words.
func takes(n api.Node) int {
	many := 1
	if n.Kind == api.Empty || n.Kind == api.Cat {
		many = 0
	}
	for _, sub := range n.Subs {
		many += takes(sub)
	}
	return many
}

func takesAll(list []api.Node) int {
	many := 1
	for _, n := range list {
		many += 1 + takes(n)
	}
	return many
}

// sound: the automaton is as the chapter has each one of these rules.
func sound(t *testing.T, a *nfa.Auto, list []api.Node) {
	t.Helper()
	if a.Len() != takesAll(list) || a.Rules() != len(list) {
		t.Errorf("got %d states, %d rules, want %d, %d", a.Len(), a.Rules(), takesAll(list), len(list))
	}
	var sets []api.Set
	accept := make([]int, len(list))
	for i, s := range statesOf(t, a) {
		for _, to := range s.Eps {
			if to < 0 || to >= a.Len() {
				t.Errorf("state %d goes to %d of %d", i, to, a.Len())
			}
		}
		switch {
		case s.To < -1 || s.To >= a.Len() || s.Accept < -1 || s.Accept >= len(list):
			t.Errorf("state %d goes to %d, accepts %d", i, s.To, s.Accept)
		case s.To >= 0 && (len(s.Eps) > 0 || s.Accept != -1):
			t.Errorf("state %d with a set goes over nothing, too, or accepts: %v", i, s)
		case s.To == -1 && s.Set != api.Set{}:
			t.Errorf("state %d goes over a set to none", i)
		}
		if s.To >= 0 {
			sets = append(sets, s.Set)
		}
		if s.Accept >= 0 {
			accept[s.Accept]++
			if s.To != -1 || len(s.Eps) > 0 {
				t.Errorf("state %d accepts, and goes on: %v", i, s)
			}
		}
	}
	if slices.ContainsFunc(accept, func(many int) bool { return many != 1 }) {
		t.Errorf("so many states accept each rule: %d", accept)
	}
	if first, _ := a.State(0); len(first.Eps) != len(list) || first.To != -1 || first.Accept != -1 {
		t.Errorf("the first state is %v", first)
	}
	if !slices.Equal(a.Sets(), sets) {
		t.Errorf("got sets %x, want %x", a.Sets(), sets)
	}
	for _, i := range []int{-1, -2, math.MinInt, a.Len(), a.Len() + 1, math.MaxInt} {
		isOutside(t, a, i)
	}
}

func isOutside(t *testing.T, a *nfa.Auto, i int) {
	t.Helper()
	if s, ok := a.State(i); ok || !reflect.DeepEqual(s, outside) {
		t.Errorf("got the state %d: %v, %t", i, s, ok)
	}
}

// builds: of these an automaton is built that is sound and accepts what they match in some texts; what is handed in stays as it is, and isn't kept.
func builds(t *testing.T, list ...api.Node) {
	t.Helper()
	handed := sample.Roomy(list)
	before := sample.MemoryOf(handed)
	auto := build(t, handed...)
	if !before.Is(handed) {
		t.Error("what was handed in isn't as it was")
	}
	blot(handed)
	sound(t, auto, list)
	follows(t, auto, list, "", "a", "b", "ab", "aab", "abcab", "aaaaaaabbaaaaaaaaaaaaaaaaaaaaaaaaaaaaaab", "ababb\xffca\x00bcaccb")
	for i, n := range list {
		if got := nfa.States(n); got != takes(n) {
			t.Errorf("%d: got %d states, want %d", i, got, takes(n))
		}
	}
}

// blot writes over all that an expression holds.
func blot(list []api.Node) {
	for i := range list {
		blot(list[i].Subs)
		list[i] = api.Node{Kind: api.Class, Set: sample.Set("blot"), Min: 7}
	}
}

// isRefused: of these nothing is built, whatever the meter, of which nothing is asked then.
func isRefused(t *testing.T, list ...api.Node) {
	t.Helper()
	for _, m := range []*meter.Meter{nil, {}, meter.New(1, 0), meter.New(0, 1), meter.New(1<<20, 1<<30)} {
		old := m
		if m != nil {
			old = new(*m)
		}
		if a, e := nfa.Build(m, list...); a != nil || e != api.ErrArg {
			t.Errorf("%d rules: got %v, %d", len(list), a, e)
		}
		if m != nil && *m != *old {
			t.Errorf("%d rules: the meter was asked", len(list))
		}
	}
}

func TestDocExamples(t *testing.T) {
	auto := build(t, sample.Of("a|b*"))
	if auto.Len() != 6 || auto.Rules() != 1 || nfa.States(sample.Of("a|b*")) != 4 {
		t.Errorf("got %d states", auto.Len())
	}
	builds(t, sample.Of("a|b*"))
}

// P14.1: no rule, one, some, eight, nine.
func TestHowManyRules(t *testing.T) {
	isRefused(t)
	isRefused(t, []api.Node{}...)
	for _, n := range some() {
		for many := 1; many <= 8; many++ {
			builds(t, rowOf(n, many)...)
		}
		for _, many := range []int{9, 10, 16, 100} {
			isRefused(t, rowOf(n, many)...)
		}
	}
	isRefused(t, append(rowOf(a, 8), api.Node{})...)
	isRefused(t, rowOf(a, 1<<20)...)
}

// P14.1: each kind alone, and all within one another.
func TestKinds(t *testing.T) {
	t.Parallel()
	for _, x := range some() {
		builds(t, x)
		builds(t, star(x))
		for _, y := range some() {
			builds(t, cat(x, y))
			builds(t, alt(x, y))
			builds(t, cat(b, x, star(alt(y, x)), empty))
			builds(t, alt(star(x), cat(x, alt(y, b)), empty))
		}
	}
}

// P14.1: rules beside one another.
func TestRulesTogether(t *testing.T) {
	t.Parallel()
	list := some()
	for i, x := range list {
		for j, y := range list {
			builds(t, x, y)
			builds(t, y, list[(i+2*j)%len(list)], x, y)
		}
		builds(t, append([]api.Node{x}, list[i/6:i/6+7]...)...)
		builds(t, append(slices.Clone(list[i*5/6:i*5/6+7]), x)...)
	}
}

// P14.1: sets of one byte, of all but one, of none, of all.
func TestSets(t *testing.T) {
	for i := range 256 {
		s := string([]byte{byte(i)})
		n := sample.Class(s)
		not := api.Node{Kind: api.Class, Set: sample.Set(s)}
		for w := range not.Set {
			not.Set[w] ^= math.MaxUint64
		}
		list := []api.Node{n, not, cat(n, not), star(not), alt(nothing, n)}
		auto := build(t, list...)
		sound(t, auto, list)
		follows(t, auto, list, s, s+s+"a", "a"+s+"a", "b"+s, "\x00\xff"+s+"\x7f\x80", "?@\x7f\x80\xbf\xc0")
	}
}

// P14.1: what isn't plain by a field of its own, or by its Subs, at any depth, at any place of the list.
func TestNotPlain(t *testing.T) {
	t.Parallel()
	for i, n := range append(sample.Wrong(), counted()...) {
		isRefused(t, n)
		for j, m := range sample.Holders(n) {
			if nfa.States(m) != 0 {
				t.Errorf("%s takes states", sample.Name(m))
			}
			row := slices.Clone(some()[:1+(i+j)%8])
			row[(i*7+j)%len(row)] = m
			isRefused(t, row...)
		}
	}
	for many := 1; many <= 8; many++ {
		for at := range many {
			for _, n := range []api.Node{{}, sample.Rep(a, 0, 1), cat(a), star(sample.Rep(a, 1, -1))} {
				row := rowOf(a, many)
				row[at] = n
				isRefused(t, row...)
			}
		}
	}
}

// counted has right expressions that aren't plain.
func counted() (list []api.Node) {
	for _, x := range some()[:10] {
		for _, times := range sample.Times()[1:] {
			list = append(list, sample.Rep(x, times[0], times[1]))
		}
	}
	return list
}

// P14.1: an expression may be plain though it isn't right, as it has too many brackets.
func TestDeeperThanRight(t *testing.T) {
	for _, wrap := range []func(api.Node) api.Node{
		star,
		func(n api.Node) api.Node { return cat(n, a) },
		func(n api.Node) api.Node { return alt(b, n) },
		func(n api.Node) api.Node { return star(alt(cat(a, n), empty)) },
	} {
		for _, deep := range []int{12, 13, 14, 40} {
			n := nested(alt(c, a), deep, wrap)
			builds(t, n, a)
			builds(t, empty, b, n, n)
			isRefused(t, a, nested(sample.Rep(a, 2, 2), deep, wrap))
		}
	}
}

// P14.1, P14.2: what layer 13 writes out is built.
func TestWrittenOut(t *testing.T) {
	for _, re := range []string{"a{2}", "a{1,2}", "a{2,}", "a?", "a{0}", "(a{1,3}b?){2}", "(ab|c+){0,3}", "(a?){5}a{5}", "((a{2}){2}){2}", "[^a]{3}|a+", "(a*)+", "(){3}"} {
		n, e := expand.Plain(sample.Of(re), 400)
		if e != api.OK {
			t.Fatal(re, e)
		}
		builds(t, n)
		builds(t, n, b, n)
	}
}
