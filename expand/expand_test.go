package expand_test

import (
	"math"
	"strings"
	"testing"

	"sieve/api"
	"sieve/bytes256"
	"sieve/expand"
	"sieve/measure"
	"sieve/regex"
	"sieve/sample"
	"sieve/show"
)

var (
	empty, nothing, anyByte = sample.Empty(), sample.Class(""), sample.Any()
	a, b, c                 = sample.Class("a"), sample.Class("b"), sample.Class("c")
	cat, alt, rep, star     = sample.Cat, sample.Alt, sample.Rep, sample.Star
	nested, rowOf, catOf    = sample.Nested, sample.Row, func(n api.Node, many int) api.Node { return cat(rowOf(n, many)...) }
	name, equal             = sample.Name, regex.Same
	odd                     = api.Node{Kind: 9, Min: 3, Subs: []api.Node{a}} // of no kind
)

// maybe: the expression or Empty, as it is written out.
func maybe(n api.Node) api.Node { return alt(n, empty) }

// expanded: with such a budget the expression is written out as that, in new memory, and what was handed in is as it was.
func expanded(t *testing.T, n api.Node, budget int, want api.Node) {
	t.Helper()
	handed := sample.Roomy([]api.Node{n})
	before := sample.MemoryOf(handed)
	got, e := expand.Plain(handed[0], budget)
	if e != api.OK || !equal(got, want) {
		t.Errorf("%s: got %s, %d, want %s", name(n), name(got), e, name(want))
	}
	if isPlain := expand.IsPlain(handed[0]); isPlain != equal(n, want) {
		t.Errorf("%s: got plain %t", name(n), isPlain)
	}
	if !before.Is(handed) {
		t.Errorf("%s: what was handed in isn't as it was", name(n))
	}
	seen := sample.Places{}
	seen.Add(handed)
	if !seen.Add(got.Subs) {
		t.Errorf("%s: the answer %s isn't new memory, each list by itself", name(n), name(got))
	}
}

// refused: with such a budget that is answered.
func refused(t *testing.T, n api.Node, budget int, want api.Errno) {
	t.Helper()
	if got, e := expand.Plain(n, budget); e != want || !equal(got, api.Node{}) {
		t.Errorf("%s, %d: got %s, %d, want %d", name(n), budget, name(got), e, want)
	}
}

// writes: the expression is written out as that, with a budget as wide as it is, and with greater ones; with lesser ones it isn't. What is written out stays so.
func writes(t *testing.T, n, want api.Node) {
	t.Helper()
	wide := measure.Wide(n)
	for _, budget := range []int{wide, wide + 1, 400, 401, 1 << 20, math.MaxInt} {
		expanded(t, n, max(budget, wide), want)
	}
	for _, budget := range []int{wide - 1, wide / 2, 1, 0, -1, -wide, math.MinInt} {
		refused(t, n, min(budget, wide-1), api.ErrNodes)
	}
	if !expand.IsPlain(want) {
		t.Errorf("%s isn't plain", name(want))
	}
	if size := sample.Size(want); size > wide {
		t.Errorf("%s is %d wide, but has %d nodes", name(n), wide, size)
	}
	same(t, n, want)
	if show.Right(want) && measure.Wide(want) <= 400 {
		expanded(t, want, 400, want)
	}
}

// writesText: so it is of the expressions of two texts.
func writesText(t *testing.T, re, want string) {
	t.Helper()
	writes(t, sample.Of(re), sample.Of(want))
}

// stays: the expression is plain, and written out as it is.
func stays(t *testing.T, n api.Node) {
	t.Helper()
	plain(t, n)
	writes(t, n, n)
}

func plain(t *testing.T, n api.Node) {
	t.Helper()
	if !expand.IsPlain(n) {
		t.Errorf("%s isn't plain", name(n))
	}
}

func notPlain(t *testing.T, n api.Node) {
	t.Helper()
	if expand.IsPlain(n) {
		t.Errorf("%s is plain", name(n))
	}
}

var budgets = []int{math.MinInt, -1, 0, 1, 2, 399, 400, 401, 1 << 30, math.MaxInt}

// wrong: what isn't right isn't written out, whatever the budget; nor is it plain.
func wrong(t *testing.T, n api.Node) {
	t.Helper()
	for _, budget := range budgets {
		refused(t, n, budget, api.ErrArg)
	}
	notPlain(t, n)
}

func TestDocExamples(t *testing.T) {
	for re, want := range map[string]string{"a{2}": "aa", "a{1,2}": "a(a|)", "a{2,}": "aaa*", "a?": "a|", "a{2}b": "(aa)b"} {
		writesText(t, re, want)
	}
	refused(t, sample.Of(strings.Repeat("a{20}", 20)), math.MaxInt, api.ErrNodes)
	refused(t, sample.Of("(a{20}){20}"), math.MaxInt, api.ErrNodes)
}

// P13.1: what isn't right by its kind, by a field, by its Subs, or by how often they may be there.
func TestWrong(t *testing.T) {
	for _, n := range sample.Wrong() {
		for _, m := range sample.Holders(n) {
			wrong(t, m)
		}
	}
}

// P13.1: 12 brackets open are right, 13 aren't; but what is plain is so at any depth.
func TestBrackets(t *testing.T) {
	for _, w := range []struct {
		wrap, written func(api.Node) api.Node
		plain         bool
	}{
		{star, star, true},
		{func(n api.Node) api.Node { return cat(n, a) }, func(n api.Node) api.Node { return cat(n, a) }, true},
		{func(n api.Node) api.Node { return alt(b, n) }, func(n api.Node) api.Node { return alt(b, n) }, true},
		{func(n api.Node) api.Node { return rep(n, 0, 1) }, maybe, false},
		{func(n api.Node) api.Node { return rep(n, 1, 1) }, func(n api.Node) api.Node { return n }, false},
		{func(n api.Node) api.Node { return rep(cat(a, n), 0, 1) }, func(n api.Node) api.Node { return maybe(cat(a, n)) }, false},
		{func(n api.Node) api.Node { return rep(alt(n, b), 0, 1) }, func(n api.Node) api.Node { return maybe(alt(n, b)) }, false},
	} {
		deep := nested(a, 12, w.wrap)
		writes(t, deep, nested(a, 12, w.written))
		for _, n := range []api.Node{nested(deep, 2, w.wrap), nested(deep, 3, w.wrap), nested(deep, 30, w.wrap), cat(a, alt(nested(deep, 3, w.wrap), b))} {
			for _, budget := range budgets {
				refused(t, n, budget, api.ErrArg)
			}
			if expand.IsPlain(n) != w.plain {
				t.Errorf("%s: got plain %t", name(n), !w.plain)
			}
		}
	}
}

// P13.1: what is written out may have more brackets than an expression that is right.
func TestMoreBrackets(t *testing.T) {
	n := nested(a, 12, func(n api.Node) api.Node { return rep(alt(n, b), 0, 1) })
	want := nested(a, 12, func(n api.Node) api.Node { return maybe(alt(n, b)) })
	writes(t, n, want)
	if show.Right(want) {
		t.Error("that should be deeper")
	}
	for _, budget := range budgets {
		refused(t, want, budget, api.ErrArg)
	}
	plain(t, want)
}

// P13.1: of both faults that of what isn't right counts.
func TestBothFaults(t *testing.T) {
	t.Parallel()
	for _, n := range []api.Node{cat(catOf(a, 500), rep(a, 3, 2)), rep(rep(rep(star(odd), 20, 20), 20, 20), 20, 20), alt(catOf(a, 400), api.Node{}), cat(append(rowOf(a, 1<<20), odd)...), alt(append([]api.Node{odd}, rowOf(a, 1<<20)...)...), nested(a, 40, func(n api.Node) api.Node { return rep(cat(n, a), 20, 20) })} {
		for _, budget := range budgets {
			refused(t, n, budget, api.ErrArg)
		}
	}
}

// P13.1: Empty and Class are as they are, whatever the budget, if it is 1 or more.
func TestEmptyAndClass(t *testing.T) {
	stays(t, empty)
	stays(t, nothing)
	stays(t, anyByte)
	for i := range 256 {
		s := string([]byte{byte(i)})
		stays(t, sample.Class(s))
		stays(t, api.Node{Kind: api.Class, Set: bytes256.Not(sample.Set(s))})
	}
	for _, n := range []api.Node{empty, a, nothing, anyByte} {
		for _, budget := range budgets {
			if budget >= 1 {
				expanded(t, n, budget, n)
			} else {
				refused(t, n, budget, api.ErrNodes)
			}
		}
	}
}

// P13.1: Cat and Alt are those of their Subs, written out, each as it stands.
func TestCatAndAlt(t *testing.T) {
	t.Parallel()
	for _, of := range []func(...api.Node) api.Node{cat, alt} {
		for _, x := range []api.Node{empty, nothing, a, anyByte, cat(a, b), alt(a, b), cat(cat(a, b), c), alt(empty, alt(a, a)), star(a), star(star(cat(a, empty)))} {
			for _, y := range []api.Node{empty, nothing, b, cat(a, a), alt(c, cat(a, b)), star(nothing)} {
				stays(t, of(x, y))
				stays(t, of(y, x))
				stays(t, of(x, y, x))
				stays(t, of(x, of(y, y), of(of(x, b), y)))
				writes(t, of(x, rep(y, 2, 2)), of(x, cat(y, y)))
				writes(t, of(rep(y, 0, 1), x), of(maybe(y), x))
				writes(t, of(rep(y, 0, 0), rep(x, 1, 1)), of(empty, x))
				writes(t, of(a, of(b, rep(x, 1, -1)), rep(y, 1, 2)), of(a, of(b, cat(x, star(x))), cat(y, maybe(y))))
			}
		}
		for _, many := range []int{2, 3, 5, 100, 398, 399} {
			stays(t, of(rowOf(a, many)...))
			stays(t, of(rowOf(empty, many)...))
		}
		for _, many := range []int{400, 401, 1000, 1 << 20} {
			refused(t, of(rowOf(a, many)...), math.MaxInt, api.ErrNodes)
			plain(t, of(rowOf(a, many)...))
		}
		writes(t, of(rowOf(rep(a, 2, 2), 44)...), of(rowOf(cat(a, a), 44)...))
		writes(t, of(rowOf(rep(a, 0, 0), 399)...), of(rowOf(empty, 399)...))
	}
}
