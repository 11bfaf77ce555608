package closure_test

import (
	"math/rand"
	"reflect"
	"slices"
	"testing"

	"sieve/api"
	"sieve/closure"
	"sieve/ends"
	"sieve/expand"
	"sieve/meter"
	"sieve/nfa"
	"sieve/sample"
	"sieve/show"
)

// ways are the states of an automaton, as State answers them; the model adds to a set till nothing is added any more.
type ways []nfa.State

func waysOf(auto *nfa.Auto) ways {
	var w ways
	for i := range auto.Len() {
		s, _ := auto.State(i)
		w = append(w, s)
	}
	return w
}

func (w ways) differs(auto *nfa.Auto) bool {
	return !reflect.DeepEqual(w, waysOf(auto))
}

// closed: these, and all to which one goes over nothing, rising.
func (w ways) closed(list []int) (all []int) {
	met := map[int]bool{}
	for _, i := range list {
		met[i] = true
	}
	for many := -1; many < len(met); {
		many = len(met)
		for i, s := range w {
			for _, to := range s.Eps {
				if met[i] {
					met[to] = true
				}
			}
		}
	}
	for i := range w {
		if met[i] {
			all = append(all, i)
		}
	}
	return all
}

// position: of these those that have a Set, or accept.
func (w ways) position(list []int) (some []int) {
	for _, i := range list {
		if w[i].To != -1 || w[i].Accept != -1 {
			some = append(some, i)
		}
	}
	return some
}

// behind: those to which one goes over the byte.
func (w ways) behind(list []int, over byte) (next []int) {
	for _, i := range list {
		if w[i].To != -1 && w[i].Set[over/64]>>(over%64)&1 == 1 {
			next = append(next, w[i].To)
		}
	}
	return next
}

func (w ways) start() []int { return w.position(w.closed([]int{0})) }

func (w ways) step(from []int, over byte) []int {
	return w.position(w.closed(w.behind(from, over)))
}

// sound: rising, each once, and such as have a Set or accept.
func sound(t *testing.T, w ways, position []int) {
	t.Helper()
	last := -1
	for _, i := range position {
		if i <= last || i >= len(w) {
			t.Fatalf("got %d", position)
		}
		if last = i; w[i].To == -1 && w[i].Accept == -1 {
			t.Errorf("state %d has no set, and accepts nothing", i)
		}
	}
}

// follows: byte by byte the positions are the model's, for the steps that it tells; behind each byte they have a rule's state just if the rule matches the text up to there, and Accept tells the first such rule.
func follows(t *testing.T, x *closure.Closer, m *meter.Meter, w ways, auto *nfa.Auto, list []api.Node, s string) {
	t.Helper()
	m.Begin(api.MaxSteps)
	met := w.closed([]int{0})
	need := len(met)
	position, e := x.Start()
	for at := 0; ; at++ {
		answers(t, position, e, w.position(met)...)
		sound(t, w, position)
		if done, _ := m.Steps(); done != need {
			t.Errorf("behind %q: got %d steps, want %d", s[:at], done, need)
		}
		first := -1
		for rule := len(list) - 1; rule >= 0; rule-- {
			want := matches(list[rule], s[:at])
			if got := slices.Contains(position, end(auto, rule)); got != want {
				t.Errorf("%s, %q: got %t, want %t", sample.Name(list[rule]), s[:at], got, want)
			}
			if want {
				first = rule
			}
		}
		if got := x.Accept(position); got != first {
			t.Errorf("%q: got the rule %d, want %d", s[:at], got, first)
		}
		if at == len(s) {
			return
		}
		need += len(position)
		met = w.closed(w.behind(position, s[at]))
		need += len(met)
		position, e = x.Step(position, s[at])
	}
}

// matches tells it of a short text: by layer 11, or, of what has too many brackets for that, by the model of package sample.
func matches(n api.Node, s string) bool {
	if show.Right(n) {
		return ends.Match(n, s)
	}
	return slices.Contains(sample.Ends(n, s)[0], len(s))
}

// followsAll: of these rules, and some texts, asked of one closer.
func followsAll(t *testing.T, list []api.Node, texts ...string) {
	t.Helper()
	auto := build(t, list...)
	w, m := waysOf(auto), meter.New(api.MaxCells, 0)
	x := closer(t, auto, m)
	for _, s := range texts {
		follows(t, x, m, w, auto, list, s)
	}
	if w.differs(auto) {
		t.Error("the automaton isn't as it was")
	}
}

// P15.3: rules of each kind.
func TestKinds(t *testing.T) {
	texts := append(sample.Texts("ab", 4), "", "abc", "ccab", "if", "iff", "i", "123", "1234", "\x00", "\xff", "\x00\xff\x00", "\x7f", "\x80", "aaaaaaaaaaaaaaaaaaaaaaab", "ababababb", "abb!abb")
	for _, list := range some() {
		followsAll(t, list, texts...)
	}
}

// P15.1, P15.3: all plain expressions of few levels, of all short texts.
func TestAllSmallExpressions(t *testing.T) {
	t.Parallel()
	level := []api.Node{empty, nothing, a, b}
	for _, x := range level[:4] {
		level = append(level, star(x))
		for _, y := range level[:4] {
			level = append(level, cat(x, y), alt(x, y))
		}
	}
	texts := append(sample.Texts("ab", 3), "abab")
	for i, x := range level {
		for j, y := range level {
			if (i+j)%2 == 0 {
				followsAll(t, []api.Node{cat(x, y), star(alt(star(x), y))}, texts...)
			} else {
				followsAll(t, []api.Node{alt(x, y), star(cat(x, y)), level[(i*j)%len(level)]}, texts...)
			}
		}
	}
}

// P15.1, P15.3: rules by chance, written out.
func TestByChance(t *testing.T) {
	t.Parallel()
	r := rand.New(rand.NewSource(15))
	draw, great := sample.Draw(r.Intn), 0
	for i := range 1000 {
		var list []api.Node
		for range 1 + r.Intn(8) {
			if n, e := expand.Plain(draw.Node(1+i%6, []int{1, 3, 20}[i%3]), 400); e == api.OK {
				list = append(list, n)
			}
		}
		if len(list) == 0 {
			continue
		}
		if build(t, list...).Len() > 100 {
			great++
		}
		followsAll(t, list, draw.Text("abc\xff", r.Intn(20)), draw.Text("ab", r.Intn(10)), "")
		if t.Failed() {
			t.FailNow()
		}
	}
	if great < 50 {
		t.Errorf("only %d were great", great)
	}
}

// P15.1: any rising states by chance, over any byte, asked in between of one closer; asked again, it answers the same.
func TestAskedInBetween(t *testing.T) {
	t.Parallel()
	r := rand.New(rand.NewSource(16))
	for _, list := range some() {
		auto := build(t, list...)
		w, m := waysOf(auto), meter.New(api.MaxCells, 0)
		x := closer(t, auto, m)
		for range 100 {
			var from []int
			for i := range w {
				if r.Intn(3) == 0 {
					from = append(from, i)
				}
			}
			over := "ab1i\x00\xff"[r.Intn(6)]
			m.Begin(api.MaxSteps)
			got, e := x.Step(from, over)
			answers(t, got, e, w.step(from, over)...)
			sound(t, w, got)
			need := len(from) + len(w.closed(w.behind(from, over)))
			is(t, m, 2*len(w), need, api.OK)
			switch r.Intn(4) {
			case 0:
				start, e := x.Start()
				answers(t, start, e, w.start()...)
			case 1:
				x.Step([]int{-1}, over)
			case 2:
				m.Begin(r.Intn(need + 1))
				x.Step(all(len(w)), over)
			}
			m.Begin(need)
			again, e := x.Step(from, over)
			answers(t, again, e, got...)
			is(t, m, 2*len(w), need, api.OK)
		}
	}
}
