package closure_test

import (
	"math"
	"slices"
	"testing"

	"sieve/api"
	"sieve/closure"
	"sieve/expand"
	"sieve/meter"
	"sieve/nfa"
	"sieve/sample"
)

var (
	empty, nothing, anyByte = sample.Empty(), sample.Class(""), sample.Any()
	a, b, c                 = sample.Class("a"), sample.Class("b"), sample.Class("c")
	cat, alt, star          = sample.Cat, sample.Alt, sample.Star
	rowOf, nested           = sample.Row, sample.Nested
)

// some has rule lists of each kind, with states that are reached twice, and with rings over nothing.
func some() [][]api.Node {
	return [][]api.Node{
		{empty}, {nothing}, {a}, {anyByte}, {a, b}, {a, a}, {empty, empty}, rowOf(a, 8), rowOf(star(alt(a, empty)), 8),
		{cat(a, b, c)}, {cat(star(a), b)}, {cat(star(a), star(b), star(c))}, {alt(a, b, c)}, {alt(a, empty), cat(alt(a, empty), a)}, {alt(empty, empty, empty)},
		{star(a)}, {star(empty)}, {star(star(a))}, {star(star(star(alt(empty, empty))))}, {star(alt(star(a), star(b), empty))}, {star(cat(star(a), star(b)))},
		{cat(star(alt(a, b)), a, b, b)}, {cat(nothing, a), cat(a, nothing)}, {star(cat(a, nothing)), b},
		{plain("if"), plain("[a-z]+"), plain("[0-9]{1,3}")}, {plain("a{2,4}b?"), plain("(ab|c+){0,3}"), plain("[^a]*"), plain("")},
		{sample.Class("\x00"), sample.Class("\xff"), star(sample.Class("\x00\xff")), sample.Class("\x7f\x80")},
		{alt(rowOf(star(a), 20)...), cat(rowOf(alt(a, empty), 20)...)},
	}
}

// plain is what is written out of a text's expression.
func plain(text string) api.Node {
	n, _ := expand.Plain(sample.Of(text), 400)
	return n
}

// build: the automaton of these, without a meter.
func build(t *testing.T, list ...api.Node) *nfa.Auto {
	t.Helper()
	auto, e := nfa.Build(nil, list...)
	if e != api.OK || auto == nil {
		t.Fatalf("%d rules: got %d", len(list), e)
	}
	return auto
}

// closer: one that there must be.
func closer(t *testing.T, auto *nfa.Auto, m *meter.Meter) *closure.Closer {
	t.Helper()
	x, e := closure.New(auto, m)
	if e != api.OK || x == nil {
		t.Fatalf("got %v, %d", x, e)
	}
	return x
}

// answers: these states, and no error.
func answers(t *testing.T, got []int, e api.Errno, want ...int) {
	t.Helper()
	if e != api.OK || !slices.Equal(got, want) {
		t.Errorf("got %d, %d, want %d", got, e, want)
	}
}

// refused: that error, and nothing else.
func refused(t *testing.T, got []int, e, want api.Errno) {
	t.Helper()
	if e != want || got != nil {
		t.Errorf("got %d, %d, want %d", got, e, want)
	}
}

// named is the state of a rule with that set; -1, if there is none, or several have it.
func named(auto *nfa.Auto, set string) int {
	found := -1
	for i := range auto.Len() {
		if s, _ := auto.State(i); s.To >= 0 && s.Set == sample.Set(set) {
			if found >= 0 {
				return -1
			}
			found = i
		}
	}
	return found
}

// end is the state that accepts the rule.
func end(auto *nfa.Auto, rule int) int {
	for i := range auto.Len() {
		if s, _ := auto.State(i); s.Accept == rule {
			return i
		}
	}
	return -1
}

// all are the numbers 0 to n - 1.
func all(n int) []int {
	list := make([]int, n)
	for i := range list {
		list[i] = i
	}
	return list
}

func sorted(list ...int) []int {
	slices.Sort(list)
	return list
}

func TestDocExample(t *testing.T) {
	auto := build(t, sample.Of("a*b"))
	x := closer(t, auto, nil)
	want := sorted(named(auto, "a"), named(auto, "b"))
	start, e := x.Start()
	answers(t, start, e, want...)
	behind, e := x.Step(start, 'a')
	answers(t, behind, e, want...)
	behind, e = x.Step(behind, 'b')
	answers(t, behind, e, end(auto, 0))
	behind, e = x.Step(behind, 'b')
	answers(t, behind, e)
}

// P15.1: what a position has, told by the chapter's words: states that have a Set, also the empty one, or that accept.
func TestPositions(t *testing.T) {
	auto := build(t, cat(a, b), alt(nothing, empty), star(star(c)))
	x := closer(t, auto, nil)
	start, e := x.Start()
	answers(t, start, e, sorted(named(auto, "a"), named(auto, ""), end(auto, 1), named(auto, "c"), end(auto, 2))...)
	for from, want := range map[int][]int{
		named(auto, "a"): {named(auto, "b")},
		named(auto, ""):  nil,
		end(auto, 1):     nil,
		end(auto, 2):     nil,
		0:                nil,
	} {
		got, e := x.Step([]int{from}, 'a')
		answers(t, got, e, want...)
	}
	got, e := x.Step([]int{named(auto, "b")}, 'b')
	answers(t, got, e, end(auto, 0))
	got, e = x.Step([]int{named(auto, "c")}, 'c')
	answers(t, got, e, sorted(named(auto, "c"), end(auto, 2))...)
	got, e = x.Step(start, 'c')
	answers(t, got, e, sorted(named(auto, "c"), end(auto, 2))...)
	got, e = x.Step(start, 'x')
	answers(t, got, e)
}

// P15.1: from no state, one, all; over each byte, also such as no set has, or several.
func TestStepAsModel(t *testing.T) {
	t.Parallel()
	for _, list := range some() {
		auto := build(t, list...)
		w, x := waysOf(auto), closer(t, auto, nil)
		every := all(auto.Len())
		for over := range 256 {
			for _, from := range [][]int{nil, {}, every, every[:len(every)/2], every[len(every)/2:], every[1:]} {
				got, e := x.Step(from, byte(over))
				answers(t, got, e, w.step(from, byte(over))...)
			}
			for i := range every {
				got, e := x.Step(every[i:i+1], byte(over))
				answers(t, got, e, w.step(every[i:i+1], byte(over))...)
			}
		}
	}
}

// P15.1: states that aren't rising, that stand twice, or that there are not, at any place of the list; nothing is asked of the meter then, also if it has no step.
func TestWrongStates(t *testing.T) {
	for _, list := range some() {
		auto := build(t, list...)
		n := auto.Len()
		last := n - 1
		wrong := [][]int{
			{-1}, {-2}, {math.MinInt}, {n}, {n + 1}, {n + 1<<16}, {1 << 32}, {math.MaxInt},
			{-1, 0}, {0, -1}, {0, n}, {n, 0}, {math.MinInt, 0, 1}, {0, last, n}, {0, 1, math.MaxInt}, {-2, -1}, {n, n + 1}, {-1, n},
			{0, 0}, {1, 1}, {last, last}, {0, 1, 1}, {0, 0, 1}, {0, 1, 0}, {1, 0}, {last, 0}, {last, last - 1},
			append(all(n), n), append(all(n), last), append(all(n), 0), append([]int{-1}, all(n)...), append([]int{0}, all(n)...), reversed(all(n)),
		}
		m := used(2*n, 1000, 3, 7)
		x, y := closer(t, auto, m), closer(t, auto, nil)
		poor := used(2*n, 0, 0, 0)
		z := closer(t, auto, poor)
		for _, from := range wrong {
			for _, over := range []byte{0, 'a', 'b', 255} {
				for _, one := range []*closure.Closer{x, y, z} {
					got, e := one.Step(from, over)
					refused(t, got, e, api.ErrArg)
				}
			}
		}
		is(t, m, 2*n+3, 7, api.OK)
		is(t, poor, 2*n, 0, api.OK)
		got, e := y.Step(all(n), 'a')
		answers(t, got, e, waysOf(auto).step(all(n), 'a')...)
	}
}

func reversed(list []int) []int {
	slices.Reverse(list)
	return list
}

// P15.2: of no state, one, several, in any order, more than once, and of numbers that aren't states.
func TestAccept(t *testing.T) {
	auto := build(t, cat(a, b), empty, star(c), anyByte, empty, a, nothing, alt(a, b))
	x := closer(t, auto, nil)
	n := auto.Len()
	for i := range n {
		want, _ := auto.State(i)
		if got := x.Accept([]int{i}); got != want.Accept {
			t.Errorf("state %d: got %d, want %d", i, got, want.Accept)
		}
	}
	var mute []int
	ends := make([]int, 8)
	for i := range n {
		if s, _ := auto.State(i); s.Accept < 0 {
			mute = append(mute, i)
		} else {
			ends[s.Accept] = i
		}
	}
	others := []int{-1, -2, math.MinInt, n, n + 1, n + 1<<16, 1 << 32, math.MaxInt}
	for _, c := range []struct {
		in   []int
		want int
	}{
		{nil, -1}, {[]int{}, -1}, {mute, -1}, {others, -1}, {slices.Concat(mute, others), -1}, {all(n), 0}, {reversed(all(n)), 0}, {ends, 0}, {ends[1:], 1}, {ends[7:], 7}, {reversed(slices.Clone(ends[3:6])), 3},
		{[]int{ends[5], ends[2], ends[6]}, 2}, {[]int{ends[6], ends[6], ends[6]}, 6}, {[]int{ends[7], ends[0]}, 0}, {[]int{ends[0], ends[7]}, 0}, {[]int{ends[4], mute[0], ends[3], mute[1], ends[4]}, 3},
		{slices.Concat(others, ends[4:], others), 4}, {slices.Concat(mute, ends[7:], mute, ends[6:7], others), 6}, {[]int{-1, ends[1], math.MaxInt}, 1},
	} {
		if got := x.Accept(c.in); got != c.want {
			t.Errorf("%d: got %d, want %d", c.in, got, c.want)
		}
	}
}

// P15.1, P15.2: of a nil closer, and of one that was never made.
func TestNoCloser(t *testing.T) {
	for _, x := range []*closure.Closer{nil, new(closure.Closer)} {
		for range 2 {
			got, e := x.Start()
			refused(t, got, e, api.ErrNil)
			for _, from := range [][]int{nil, {0}, {1, 0}, {-1}, {math.MaxInt}} {
				got, e := x.Step(from, 'a')
				refused(t, got, e, api.ErrNil)
				if got := x.Accept(from); got != -1 {
					t.Errorf("got %d", got)
				}
			}
			x.Drop()
		}
	}
}

// P15.1: a list that is handed in stays as it is, and isn't kept.
func TestHandedIn(t *testing.T) {
	for _, list := range some() {
		auto := build(t, list...)
		w, x := waysOf(auto), closer(t, auto, nil)
		n := auto.Len()
		for long := range n + 1 {
			handed := append(all(long), -5, -6)[:long]
			got, e := x.Step(handed, 'a')
			want := w.step(all(long), 'a')
			answers(t, got, e, want...)
			x.Accept(handed)
			if !slices.Equal(handed[:long+2], append(all(long), -5, -6)) {
				t.Errorf("what was handed in is %d", handed[:long+2])
			}
			for i := range handed {
				handed[i] = -7
			}
			answers(t, got, e, want...)
			got, e = x.Step(all(long), 'a')
			answers(t, got, e, want...)
		}
	}
}

// P15.1: what was answered is new each time: changing it changes nothing, also where it is handed in again.
func TestAnswersAreNew(t *testing.T) {
	for _, list := range some() {
		auto := build(t, list...)
		w, x := waysOf(auto), closer(t, auto, nil)
		for range 3 {
			start, e := x.Start()
			answers(t, start, e, w.start()...)
			behind, e := x.Step(start, 'a')
			answers(t, start, api.OK, w.start()...)
			answers(t, behind, e, w.step(w.start(), 'a')...)
			again, e := x.Step(start, 'a')
			blot(behind)
			answers(t, again, e, w.step(w.start(), 'a')...)
			answers(t, start, api.OK, w.start()...)
			blot(start)
			answers(t, again, e, w.step(w.start(), 'a')...)
			blot(again)
		}
		if w.differs(auto) {
			t.Error("the automaton isn't as it was")
		}
	}
}

// blot writes over all that a list holds, its spare room too.
func blot(list []int) {
	for i := range list[:cap(list)] {
		list[:cap(list)][i] = -9
	}
}
