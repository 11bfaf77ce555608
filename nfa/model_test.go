package nfa_test

import (
	"math/rand"
	"slices"
	"testing"

	"sieve/api"
	"sieve/expand"
	"sieve/nfa"
	"sieve/sample"
	"sieve/show"
)

// The model goes all ways of an automaton at once, by what State answers.

type ways []nfa.State

// closed: these, and all to which one goes over nothing.
func (w ways) closed(list []int) []int {
	met := make([]bool, len(w))
	var all []int
	for len(list) > 0 {
		i := list[len(list)-1]
		list = list[:len(list)-1]
		if !met[i] {
			met[i] = true
			all = append(all, i)
			list = append(list, w[i].Eps...)
		}
	}
	return all
}

// behind: those to which one goes over the byte.
func (w ways) behind(list []int, b byte) (next []int) {
	for _, i := range list {
		if w[i].To >= 0 && w[i].Set[b/64]>>(b%64)&1 == 1 {
			next = append(next, w[i].To)
		}
	}
	return next
}

// accepted has of each rule where texts end that are accepted from a state on, which begin at the place.
func (w ways) accepted(start int, s string, from, rules int) [][]int {
	ends := make([][]int, rules)
	list := []int{start}
	for at := from; len(list) > 0; at++ {
		list = w.closed(list)
		for _, i := range list {
			if w[i].Accept >= 0 {
				ends[w[i].Accept] = append(ends[w[i].Accept], at)
			}
		}
		if at == len(s) {
			break
		}
		list = w.behind(list, s[at])
	}
	return ends
}

// follows: from its first state on the automaton accepts of each rule what is matched in these texts, from any place on; from a rule's state on of that rule alone.
func follows(t *testing.T, a *nfa.Auto, list []api.Node, texts ...string) {
	t.Helper()
	w := ways(statesOf(t, a))
	for _, s := range texts {
		var want [][][]int
		for _, n := range list {
			want = append(want, sample.Ends(n, s))
		}
		for from := range len(s) + 1 {
			for rule, got := range w.accepted(0, s, from, len(list)) {
				if !slices.Equal(got, want[rule][from]) {
					t.Errorf("%s, rule %d of %d: of %q from %d got %d, want %d", sample.Name(list[rule]), rule, len(list), s, from, got, want[rule][from])
				}
			}
			for rule, start := range w[0].Eps {
				for other, got := range w.accepted(start, s, from, len(list)) {
					if other == rule && !slices.Equal(got, want[rule][from]) || other != rule && len(got) > 0 {
						t.Errorf("from the state of rule %d of %d on: of %q from %d rule %d got %d", rule, len(list), s, from, other, got)
					}
				}
			}
		}
	}
}

// P14.1: all plain expressions of few levels, of all short texts.
func TestAllSmallExpressions(t *testing.T) {
	t.Parallel()
	level := []api.Node{empty, nothing, a, b}
	for _, x := range level[:4] {
		level = append(level, star(x))
		for _, y := range level[:4] {
			level = append(level, cat(x, y), alt(x, y))
		}
	}
	texts := append(sample.Texts("ab", 4), "aaaaaaab", "bbabbbaabb")
	for i, x := range level {
		for j, y := range level {
			for _, n := range []api.Node{cat(x, y), alt(x, y), star(cat(x, y)), star(alt(star(x), y))} {
				list := []api.Node{n, level[(i+j)%len(level)]}
				auto := build(t, list...)
				sound(t, auto, list)
				follows(t, auto, list, texts[(i*7+j)%len(texts)], texts[16+(i+j)%2])
				follows(t, auto, list, texts[:16]...)
			}
			if t.Failed() {
				t.FailNow()
			}
		}
	}
}

// P14.1: rules by chance, written out.
func TestAgainstModel(t *testing.T) {
	t.Parallel()
	r := rand.New(rand.NewSource(14))
	draw, great := sample.Draw(r.Intn), 0
	for i := range 4000 {
		var list []api.Node
		for range 1 + r.Intn(8) {
			n := draw.Node(1+i%6, []int{1, 3, 20}[i%3])
			if plain, e := expand.Plain(n, 400); e == api.OK {
				list = append(list, plain)
			} else if show.Right(n) {
				list = append(list, b)
			}
		}
		if len(list) == 0 {
			continue
		}
		auto := build(t, list...)
		sound(t, auto, list)
		follows(t, auto, list, draw.Text("abc\xff", r.Intn(20)), draw.Text("ab", r.Intn(10)))
		if auto.Len() > 100 {
			great++
		}
		if t.Failed() {
			t.FailNow()
		}
	}
	if great < 200 {
		t.Errorf("only %d were great", great)
	}
}
