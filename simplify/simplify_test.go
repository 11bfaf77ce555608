package simplify_test

import (
	"fmt"
	"math"
	"reflect"
	"slices"
	"testing"

	"sieve/api"
	"sieve/regex"
	"sieve/show"
	"sieve/simplify"
)

func setOf(bytes string) (a api.Set) {
	for i := range len(bytes) {
		a[bytes[i]/64] |= 1 << (bytes[i] % 64)
	}
	return a
}

func class(bytes string) api.Node {
	return api.Node{Kind: api.Class, Set: setOf(bytes)}
}

func cat(list ...api.Node) api.Node {
	return api.Node{Kind: api.Cat, Subs: list}
}

func alt(list ...api.Node) api.Node {
	return api.Node{Kind: api.Alt, Subs: list}
}

func rep(n api.Node, least, most int) api.Node {
	return api.Node{Kind: api.Rep, Min: least, Max: most, Subs: []api.Node{n}}
}

func star(n api.Node) api.Node { return rep(n, 0, -1) }

// nested: the expression, wrapped as often as is told.
func nested(n api.Node, many int, wrap func(api.Node) api.Node) api.Node {
	for range many {
		n = wrap(n)
	}
	return n
}

// rowOf: the expression, so often.
func rowOf(n api.Node, many int) []api.Node {
	return slices.Repeat([]api.Node{n}, many)
}

var (
	empty, nothing = api.Node{Kind: api.Empty}, class("")
	a, b, c, d     = class("a"), class("b"), class("c"), class("d")
	anyByte        = api.Node{Kind: api.Class, Set: api.Set{1<<64 - 1, 1<<64 - 1, 1<<64 - 1, 1<<64 - 1}}
	odd            = api.Node{Kind: 9, Min: 3, Subs: []api.Node{a}} // of no kind
)

// name is the expression's text, to tell of it.
func name(n api.Node) string {
	if s, e := show.Text(n); e == api.OK {
		return `"` + s + `"`
	}
	return fmt.Sprintf("%+v", n)
}

// parse is the expression of a text of the grammar.
func parse(t *testing.T, s string) api.Node {
	t.Helper()
	n, at, e := regex.Parse(s)
	if e != api.OK {
		t.Fatalf("%q is wrong at %d", s, at)
	}
	return n
}

func equal(x, y api.Node) bool {
	return x.Kind == y.Kind && x.Set == y.Set && x.Min == y.Min && x.Max == y.Max && slices.EqualFunc(x.Subs, y.Subs, equal)
}

// roomy is the list, and each one within it, with spare room behind it that isn't blank.
func roomy(list []api.Node) []api.Node {
	row := make([]api.Node, 0, len(list)+2)
	for _, n := range list {
		n.Subs = roomy(n.Subs)
		row = append(row, n)
	}
	return append(row, odd, api.Node{Kind: 7})[:len(list)]
}

// memory has all that a list holds, its spare room too.
type memory struct {
	length int
	nodes  []api.Node
	below  []memory
}

func memoryOf(list []api.Node) memory {
	m := memory{length: len(list)}
	for _, n := range list[:cap(list)] {
		m.below = append(m.below, memoryOf(n.Subs))
		n.Subs = nil
		m.nodes = append(m.nodes, n)
	}
	return m
}

// places adds those of all nodes that a list holds, its spare room too, and tells whether each was new.
func places(seen map[*api.Node]bool, list []api.Node) bool {
	fresh := true
	for i := range list[:cap(list)] {
		p := &list[:cap(list)][i]
		fresh = fresh && !seen[p]
		seen[p] = true
		fresh = places(seen, p.Subs) && fresh
	}
	return fresh
}

// answers: a call of such Subs answers that, in new memory, and leaves what it was handed as it was.
func answers(t *testing.T, what string, call func(list []api.Node) api.Node, list []api.Node, want api.Node) {
	t.Helper()
	handed := roomy(list)
	before := memoryOf(handed)
	got := call(handed)
	if !equal(got, want) {
		t.Errorf("%s: got %s, want %s", what, name(got), name(want))
	}
	if !reflect.DeepEqual(memoryOf(handed), before) {
		t.Errorf("%s: what was handed in isn't as it was", what)
	}
	seen := map[*api.Node]bool{}
	places(seen, handed)
	if !places(seen, got.Subs) {
		t.Errorf("%s: the answer %s isn't new memory, each list by itself", what, name(got))
	}
}

func cats(t *testing.T, want api.Node, list ...api.Node) {
	t.Helper()
	answers(t, "Cat of "+name(cat(list...)), func(list []api.Node) api.Node { return simplify.Cat(list...) }, list, want)
}

func alts(t *testing.T, want api.Node, list ...api.Node) {
	t.Helper()
	answers(t, "Alt of "+name(alt(list...)), func(list []api.Node) api.Node { return simplify.Alt(list...) }, list, want)
}

func reps(t *testing.T, want, n api.Node, least, most int) {
	t.Helper()
	answers(t, fmt.Sprintf("Rep of %s, %d, %d", name(n), least, most), func(list []api.Node) api.Node { return simplify.Rep(list[0], least, most) }, []api.Node{n}, want)
}

// simple: the expression, made simple, is that.
func simple(t *testing.T, n, want api.Node) {
	t.Helper()
	answers(t, "Simple of "+name(n), func(list []api.Node) api.Node {
		got, e := simplify.Simple(list[0])
		if e != api.OK {
			t.Errorf("Simple of %s: got error %d", name(n), e)
		}
		return got
	}, []api.Node{n}, want)
}

// simples: each text's expression, made simple, has the other text.
func simples(t *testing.T, list map[string]string) {
	t.Helper()
	for s, want := range list {
		simple(t, parse(t, s), parse(t, want))
	}
}

// wrong: what isn't right isn't made simple.
func wrong(t *testing.T, n api.Node) {
	t.Helper()
	got, e := simplify.Simple(n)
	if e != api.ErrArg || !equal(got, api.Node{}) {
		t.Errorf("got %+v, %d", got, e)
	}
}

// wrongEverywhere: nor is all that has it, at any place and depth, also where it would be left out.
func wrongEverywhere(t *testing.T, n api.Node) {
	t.Helper()
	for _, m := range []api.Node{n, cat(n, a), cat(a, n), cat(nothing, n), cat(n, nothing), cat(empty, n), alt(n, a), alt(a, n), alt(empty, n), alt(n, n, b), rep(n, 1, 2), rep(n, 0, 0), rep(n, 1, 1), star(n)} {
		wrong(t, m)
		for _, more := range []api.Node{cat(m, b), cat(nothing, b, m), alt(b, m), alt(empty, empty, m), star(m), rep(m, 0, 0), cat(a, alt(b, star(cat(m, a)))), alt(cat(rep(m, 2, 2), b), c)} {
			wrong(t, more)
		}
	}
}

func TestDocExamples(t *testing.T) {
	simples(t, map[string]string{"(a|b|c)()": "[a-c]", "(a+)*": "a*", "a[]|b": "b"})
}

// P10.1: Simple of what isn't right by its kind, or by a field.
func TestWrongFields(t *testing.T) {
	for _, kind := range []int{0, -1, 6, 100, 1<<32 + api.Class, math.MaxInt, math.MinInt} {
		for _, n := range []api.Node{empty, a, nothing, cat(a, b), alt(a, empty), star(a)} {
			n.Kind = kind
			wrongEverywhere(t, n)
		}
	}
	for _, n := range []api.Node{empty, a, nothing, cat(a, b), alt(a, b)} {
		for _, times := range [][2]int{{1, 0}, {0, 1}, {0, -1}, {1, 1}, {math.MinInt, 0}, {0, math.MaxInt}} {
			n.Min, n.Max = times[0], times[1]
			wrongEverywhere(t, n)
		}
	}
	for _, n := range []api.Node{empty, cat(a, b), alt(a, b), star(a), rep(a, 0, 0)} {
		for _, set := range []api.Set{setOf("a"), setOf("\x00"), setOf("\xff"), anyByte.Set} {
			n.Set = set
			wrongEverywhere(t, n)
		}
	}
}

// P10.1: Simple of what isn't right by its Subs, or by how often they may be there.
func TestWrongSubs(t *testing.T) {
	for _, n := range []api.Node{empty, a, nothing} {
		n.Subs = []api.Node{a}
		wrongEverywhere(t, n)
	}
	for _, kind := range []int{api.Cat, api.Alt} {
		wrongEverywhere(t, api.Node{Kind: kind})
		wrongEverywhere(t, api.Node{Kind: kind, Subs: []api.Node{}})
		for _, n := range []api.Node{a, empty, nothing, cat(a, b)} {
			wrongEverywhere(t, api.Node{Kind: kind, Subs: []api.Node{n}})
		}
	}
	for _, times := range [][2]int{{0, -1}, {1, -1}, {0, 0}, {0, 1}, {20, 20}} {
		n := rep(a, times[0], times[1])
		n.Subs = nil
		wrongEverywhere(t, n)
		n.Subs = []api.Node{a, b}
		wrongEverywhere(t, n)
	}
	for _, times := range [][2]int{{0, 21}, {21, 21}, {21, -1}, {-1, -1}, {-1, 0}, {0, -2}, {1, 0}, {20, 19}, {math.MinInt, -1}, {0, math.MaxInt}, {math.MaxInt, math.MaxInt}, {0, math.MinInt}, {1 << 32, 1 << 32}} {
		wrongEverywhere(t, rep(a, times[0], times[1]))
		wrongEverywhere(t, rep(nothing, times[0], times[1]))
		wrongEverywhere(t, rep(empty, times[0], times[1]))
	}
}

// P10.1: with 12 brackets open it is made simple, with 13 it isn't, though it would have none.
func TestBrackets(t *testing.T) {
	for _, w := range []struct {
		wrap func(api.Node) api.Node
		want api.Node
	}{
		{func(n api.Node) api.Node { return rep(n, 1, 1) }, a},
		{star, star(a)},
		{func(n api.Node) api.Node { return cat(n, a) }, cat(rowOf(a, 14)...)},
		{func(n api.Node) api.Node { return alt(b, n) }, class("ab")},
		{func(n api.Node) api.Node { return rep(n, 2, 3) }, nested(a, 13, func(n api.Node) api.Node { return rep(n, 2, 3) })},
	} {
		deep := nested(a, 13, w.wrap)
		simple(t, deep, w.want)
		wrongEverywhere(t, w.wrap(deep))
		wrongEverywhere(t, nested(deep, 30, w.wrap))
	}
}

// P10.1: an expression that is as deep as may be handed in, or that holds itself, isn't right, and Simple ends.
func TestEndless(t *testing.T) {
	for _, wrap := range []func(api.Node) api.Node{
		star,
		func(n api.Node) api.Node { return cat(n, a) },
		func(n api.Node) api.Node { return alt(empty, n) },
		func(n api.Node) api.Node { return api.Node{Kind: api.Class, Subs: []api.Node{n}} },
		func(n api.Node) api.Node { return api.Node{Subs: []api.Node{n}} },
	} {
		n := nested(a, 1<<20, wrap)
		wrong(t, n)
		wrong(t, cat(nothing, alt(empty, n)))
	}
	for _, kind := range []int{api.Cat, api.Alt} {
		subs := []api.Node{a, {Kind: kind}, b}
		subs[1].Subs = subs
		wrong(t, subs[1])
	}
	subs := []api.Node{{Kind: api.Rep, Max: -1}}
	subs[0].Subs = subs
	wrong(t, subs[0])
}

// P10.1: Empty and Class are as they are, however they are put together alone.
func TestEachKindAlone(t *testing.T) {
	for _, n := range []api.Node{empty, a, nothing, anyByte, class("\x00\xff"), class("a-z")} {
		simple(t, n, n)
		cats(t, n, n)
		reps(t, n, n, 1, 1)
	}
	for _, n := range []api.Node{a, anyByte, star(a), rep(a, 2, 3), rep(a, 0, 1), rep(a, 1, -1), rep(cat(a, b), 20, 20)} {
		simple(t, n, n)
		for _, m := range []api.Node{n, cat(n, a), cat(b, n, star(c)), alt(n, empty), alt(empty, n, star(c)), rep(cat(n, b), 4, 5)} {
			simple(t, m, m)
			cats(t, m, m)
			alts(t, m, m)
			reps(t, m, m, 1, 1)
		}
	}
}

// P10.1: Cat and Alt of no Subs, and of one.
func TestFewSubs(t *testing.T) {
	cats(t, empty)
	alts(t, nothing)
	if !equal(simplify.Cat(), empty) || !equal(simplify.Alt(), nothing) || !equal(simplify.Cat([]api.Node{}...), empty) || !equal(simplify.Alt([]api.Node{}...), nothing) {
		t.Error("of none: Empty, and nothing")
	}
	for _, n := range []api.Node{empty, nothing, a, anyByte, star(a), rep(a, 3, 4), rep(cat(a, b), 0, 1)} {
		cats(t, n, n)
		alts(t, n, n)
	}
	cats(t, alt(empty, a), alt(empty, a))
	alts(t, cat(a, b), cat(a, b))
	cats(t, cat(a, b), cat(a, b))
	alts(t, alt(star(a), empty), alt(star(a), empty))
	cats(t, odd, odd)
	alts(t, odd, odd)
}

// P10.1: Cat of many.
func TestCat(t *testing.T) {
	cats(t, cat(a, b), a, b)
	cats(t, cat(a, a, a), a, a, a)
	cats(t, cat(a, alt(star(b), empty), rep(c, 2, 3)), a, alt(star(b), empty), rep(c, 2, 3))
	cats(t, cat(star(a), star(a)), star(a), star(a))
	for _, many := range []int{2, 3, 10, 3000} {
		row := rowOf(a, many)
		cats(t, cat(row...), row...)
		cats(t, cat(row...), slices.Concat(row, []api.Node{empty, empty})...)
		cats(t, cat(slices.Concat(row, row)...), cat(row...), cat(row...))
		cats(t, nothing, slices.Concat(row, []api.Node{nothing})...)
		cats(t, empty, rowOf(empty, many)...)
		cats(t, nothing, rowOf(nothing, many)...)
	}
}

// P10.1: a Cat among a Cat's Subs gives its own in its place.
func TestCatWithinCat(t *testing.T) {
	cats(t, cat(a, b, c), cat(a, b), c)
	cats(t, cat(a, b, c), a, cat(b, c))
	cats(t, cat(a, b, c, d), a, cat(b, c), d)
	cats(t, cat(a, b, c, d), cat(a, b), cat(c, d))
	cats(t, cat(a, b, star(c), d), cat(a, b), empty, cat(star(c), d))
	cats(t, cat(alt(star(a), cat(b, c)), a, b), alt(star(a), cat(b, c)), cat(a, b))
	cats(t, cat(star(cat(a, b)), a, b), star(cat(a, b)), cat(a, b))
	cats(t, nothing, cat(a, b), nothing)
	cats(t, nothing, nothing, cat(a, b))
	simples(t, map[string]string{
		"(ab)c": "abc", "a(bc)": "abc", "(ab)(cd)": "abcd", "a(bc)d": "abcd", "((ab)c)d": "abcd", "a(b(cd))": "abcd", "((ab)(cd))((ef)g)": "abcdefg",
		"(((((ab)c)d)e)f)g": "abcdefg", "a(b(c(d(e(fg)))))": "abcdefg", "a(b(c(d(e)f)g)h)i": "abcdefghi", "(a(bc*))(d?e)": "abc*d?e",
		"((ab)c|d*)e": "(abc|d*)e", "((ab)c){2}(d(ef))": "(abc){2}def", "(ab)(|(cd)(ef))": "ab(|cdef)", "(a(bc)){1}d": "abcd", "(a(bc)|[])d": "abcd",
	})
}

// P10.1: of Subs that aren't simple each is taken as it stands, once; what it gives is asked as the others are.
func TestSubsThatArentSimple(t *testing.T) {
	cats(t, cat(cat(a, b), c, d), cat(cat(a, b), c), d)
	cats(t, cat(a, cat(b, cat(c, d))), a, cat(cat(b, cat(c, d))))
	cats(t, cat(a, b), cat(empty, a, empty), b)
	cats(t, a, cat(empty, a))
	cats(t, empty, cat(empty, empty), empty)
	cats(t, empty, cat())
	cats(t, a, cat(), a, cat())
	cats(t, a, cat(a))
	cats(t, nothing, cat(a, nothing), b)
	cats(t, cat(a, b), cat(cat(a, b)))
	cats(t, cat(a, alt(b, nothing)), a, alt(b, nothing))
	cats(t, cat(rep(a, 0, 0), rep(empty, 1, 1)), rep(a, 0, 0), rep(empty, 1, 1))
	alts(t, alt(alt(star(a), empty), star(b), empty), alt(alt(star(a), empty), star(b)), empty)
	alts(t, alt(alt(a, b), c), alt(alt(a, b), c))
	alts(t, class("ab"), alt(nothing, a, nothing), b)
	alts(t, class("ab"), alt(a, b))
	alts(t, nothing, alt(nothing, nothing), nothing)
	alts(t, nothing, alt())
	alts(t, star(a), alt(), star(a), alt())
	alts(t, star(a), alt(star(a), star(a)), star(a))
	alts(t, alt(cat(a, nothing), b), cat(a, nothing), b)
	alts(t, alt(rep(a, 1, 1), a), rep(a, 1, 1), a)
	reps(t, rep(rep(a, 1, 1), 2, 3), rep(a, 1, 1), 2, 3)
	reps(t, star(cat(empty, a)), cat(empty, a), 0, -1)
	reps(t, star(a), rep(a, 0, 0), 0, -1)
	reps(t, star(alt(nothing, b)), rep(alt(nothing, b), 1, 1), 0, -1)
	reps(t, empty, rep(empty, 1, 2), 0, -1)
	reps(t, empty, rep(rep(nothing, 1, 2), 0, 3), 0, -1)
	reps(t, rep(rep(star(a), 1, 2), 1, 3), rep(star(a), 1, 2), 1, 3)
	reps(t, star(star(a)), star(star(a)), 0, -1)
	reps(t, star(empty), star(empty), 0, -1)
	reps(t, star(nothing), rep(star(nothing), 1, 2), 0, -1)
}

// P10.1: Subs of no kind stay, and a Rep without one Sub has none to give.
func TestSubsOfNoKind(t *testing.T) {
	for _, n := range []api.Node{{}, {Kind: -1}, {Kind: 6}, odd, {Kind: math.MaxInt, Max: 4, Set: setOf("a")}, {Kind: 1<<32 + api.Cat, Subs: []api.Node{a, b}}} {
		cats(t, cat(a, n, n), a, n, n)
		alts(t, alt(n, a), n, a, n)
		reps(t, rep(n, 0, -1), n, 0, -1)
		reps(t, n, n, 1, 1)
		reps(t, empty, n, 0, 0)
		reps(t, star(n), rep(n, 0, 1), 0, -1)
		cats(t, nothing, n, nothing)
		alts(t, n, nothing, n)
	}
	for _, none := range []api.Node{{Kind: api.Rep, Max: 1}, {Kind: api.Rep, Min: 1, Max: -1}, {Kind: api.Rep, Min: 1, Max: 3, Subs: []api.Node{a, b}}} {
		reps(t, star(none), none, 0, -1)
		reps(t, star(none), rep(none, 0, 1), 0, -1)
	}
	reps(t, api.Node{Kind: api.Rep, Max: -1}, api.Node{Kind: api.Rep, Max: -1}, 2, 3)
	for _, times := range [][2]int{{0, 21}, {-1, -1}, {-1, 3}, {3, 2}, {0, -2}, {math.MinInt, math.MaxInt}} {
		reps(t, rep(a, times[0], times[1]), a, times[0], times[1])
		reps(t, empty, empty, times[0], times[1])
		reps(t, star(a), star(a), times[0], times[1])
	}
	reps(t, nothing, nothing, -1, -1)
	reps(t, nothing, nothing, math.MinInt, 5)
	reps(t, empty, nothing, 0, -7)
	reps(t, empty, a, -1, 0)
	// A kind is told by itself, whatever else stands beside it.
	blank, full := api.Node{Kind: api.Empty, Min: 3, Subs: []api.Node{a}}, api.Node{Kind: api.Class, Set: setOf("a"), Max: 7, Subs: []api.Node{b}}
	cats(t, a, blank, a)
	reps(t, empty, blank, 2, 3)
	alts(t, class("ab"), full, b)
	alts(t, a, full)
	alts(t, star(b), api.Node{Kind: api.Class, Min: 2, Subs: []api.Node{a}}, star(b))
	cats(t, nothing, a, api.Node{Kind: api.Class, Min: 2, Subs: []api.Node{a}})
	cats(t, cat(a, b, c), api.Node{Kind: api.Cat, Max: 5, Set: setOf("x"), Subs: []api.Node{a, b}}, c)
}

// P10.1: Empty among a Cat's Subs is left out.
func TestEmptyInCat(t *testing.T) {
	cats(t, a, empty, a)
	cats(t, a, a, empty)
	cats(t, a, empty, empty, a, empty)
	cats(t, cat(a, b), a, empty, b)
	cats(t, cat(a, b), empty, a, empty, empty, b, empty)
	cats(t, empty, empty)
	cats(t, empty, empty, empty, empty)
	cats(t, nothing, empty, nothing)
	cats(t, cat(a, b), empty, cat(a, b), empty)
	cats(t, alt(star(a), empty), empty, alt(star(a), empty))
	simples(t, map[string]string{
		"()()": "", "()a": "a", "a()": "a", "()()a()": "a", "a()b": "ab", "(()())()": "", "(()(()()))a": "a", "(()a)(b())": "ab", "()(a|)": "a|",
		"a{0}b": "b", "a()*b": "ab", "(a{0}|[])(b{0})": "", "()[]": "[]", "(()|[])a": "a",
	})
}

// P10.1: nothing among a Cat's Subs leaves nothing, among an Alt's it is left out.
func TestNothing(t *testing.T) {
	cats(t, nothing, nothing, a)
	cats(t, nothing, a, nothing)
	cats(t, nothing, a, nothing, b)
	cats(t, nothing, nothing, nothing)
	cats(t, nothing, nothing)
	cats(t, nothing, star(a), cat(a, b), nothing, empty)
	alts(t, a, nothing, a)
	alts(t, a, a, nothing)
	alts(t, star(a), nothing, star(a), nothing)
	alts(t, empty, nothing, empty)
	alts(t, cat(a, b), cat(a, b), nothing)
	alts(t, nothing, nothing)
	alts(t, nothing, nothing, nothing, nothing)
	alts(t, alt(star(a), empty), star(a), nothing, empty)
	simples(t, map[string]string{
		"[]": "[]", "[]a": "[]", "a[]": "[]", "a[]b": "[]", "[][]": "[]", "a([]b)c": "[]", "(a|b[])c": "ac", "[]|[]": "[]", "[]|a": "a", "a|[]": "a", "[]|a*|[]": "a*",
		"(a[]|[]b)c": "[]", "(a[]|[]b)|c": "c", "a|b[]|c*": "a|c*", "([]|[])*": "", "(a[])+": "[]", "(a[]){0,5}b": "b", "(a[]){2}|b": "b", "(a(b[])|)*": "",
	})
}

// P10.1: an Alt among an Alt's Subs gives its own in its place.
func TestAltWithinAlt(t *testing.T) {
	s, u, v, w := star(a), star(b), star(c), star(d)
	alts(t, alt(s, u, v), alt(s, u), v)
	alts(t, alt(s, u, v), s, alt(u, v))
	alts(t, alt(s, u, v, w), s, alt(u, v), w)
	alts(t, alt(s, u, v, w), alt(s, u), alt(v, w))
	alts(t, alt(s, u, v), alt(s, u), nothing, alt(u, v))
	alts(t, alt(class("ac"), s, u), alt(a, s), alt(c, u))
	alts(t, alt(cat(alt(s, u), a), s, u), cat(alt(s, u), a), alt(s, u))
	alts(t, alt(star(alt(s, u)), s, u), star(alt(s, u)), alt(s, u))
	simples(t, map[string]string{
		"(a*|b*)|c*": "a*|b*|c*", "a*|(b*|c*)": "a*|b*|c*", "((a*|b*)|c*)|d*": "a*|b*|c*|d*", "a*|(b*|(c*|d*))": "a*|b*|c*|d*", "((a*|b*)|(c*|d*))|((e*|f*)|g*)": "a*|b*|c*|d*|e*|f*|g*",
		"(((((a*|b*)|c*)|d*)|e*)|f*)|g*": "a*|b*|c*|d*|e*|f*|g*", "a*|(b*|(c*|(d*|(e*|(f*|g*)))))": "a*|b*|c*|d*|e*|f*|g*",
		"(a*|b)|(c|(d*|e))": "a*|[bce]|d*", "(|a)|(|b)": "|[ab]", "((a|b)|(c|d))|((e|f)|g)": "[a-g]", "((a|b*){1}|c)|a*": "[ac]|b*|a*", "()(a|b*)|c": "[ac]|b*",
	})
}

// P10.1: the Classes of an Alt are one, where the first one stood.
func TestClassesOfAlt(t *testing.T) {
	s, u := star(a), star(b)
	alts(t, class("ab"), a, b)
	alts(t, class("ab"), b, a)
	alts(t, a, a, a)
	alts(t, class("abcd"), a, class("bc"), d)
	alts(t, anyByte, a, anyByte, b)
	alts(t, class("\x00\x3f\x40\x7f\x80\xbf\xc0\xff"), class("\x00\xff"), class("\x3f\xc0"), class("\x40\xbf"), class("\x7f\x80"))
	alts(t, alt(a, s), a, s)
	alts(t, alt(class("ab"), s, u), a, s, b, u)
	alts(t, alt(class("ab"), s, u), a, s, u, b)
	alts(t, alt(s, class("abc"), u), s, a, b, u, c)
	alts(t, alt(s, u, class("ab")), s, u, a, b)
	alts(t, alt(s, u, a), s, u, a)
	alts(t, alt(s, a, u), nothing, s, nothing, a, u, nothing)
	alts(t, alt(s, class("ab"), empty), s, b, nothing, empty, a)
	alts(t, alt(empty, class("ab")), empty, a, b, empty, a)
	alts(t, alt(s, a), nothing, s, a)
	row := make([]api.Node, 256)
	for i := range row {
		row[i] = class(string([]byte{byte(255 - i)}))
	}
	alts(t, anyByte, row...)
	alts(t, alt(s, anyByte), slices.Concat([]api.Node{nothing, s}, row)...)
	alts(t, alt(anyByte, s), slices.Concat(row, []api.Node{s})...)
	simples(t, map[string]string{
		"a|b|c": "[a-c]", "a|b*|c": "[ac]|b*", "b*|a|c": "b*|[ac]", "b*|a|c*|d": "b*|[ad]|c*", "b*|c*|a": "b*|c*|a", "a|[]": "a", "[]|b*|a|c": "b*|[ac]",
		"[^a]|a": ".", "a||b": "[ab]|", "|a|b": "|[ab]", "(a|b)c|d": "[ab]c|d", "a{1}|b{1}": "[ab]", "()a|b*|c()": "[ac]|b*", "(a|b)*|(b|a)*": "[ab]*",
	})
}

// P10.1: of an Alt's Subs that are the same the first one stays.
func TestSameTwice(t *testing.T) {
	for _, n := range []api.Node{empty, star(a), rep(a, 2, 3), cat(a, b), cat(star(a), alt(empty, b)), odd} {
		alts(t, n, n, n)
		alts(t, n, n, n, n)
		alts(t, alt(n, class("bc")), n, b, n, c, n)
		alts(t, alt(b, n), b, n, n)
		alts(t, alt(n, rep(b, 4, 4)), n, rep(b, 4, 4), rep(b, 4, 4), n, n)
		alts(t, alt(rep(b, 4, 4), n, rep(c, 4, 4)), rep(b, 4, 4), alt(n, rep(c, 4, 4)), alt(n, rep(b, 4, 4)))
		alts(t, n, rowOf(n, 3000)...)
	}
	// What isn't the same in one field stays, however deep that is.
	for _, pair := range [][2]api.Node{
		{star(a), star(b)}, {star(a), rep(a, 1, -1)}, {rep(a, 2, 3), rep(a, 2, 4)}, {rep(a, 2, 3), rep(a, 1, 3)}, {cat(a, b), cat(b, a)}, {cat(a, b), cat(a, b, a)}, {cat(a, star(b)), cat(a, star(c))},
		{star(class("\x3f")), star(class("\x7f"))}, {star(class("\x3f")), star(class("\\"))}, {star(class("\x00")), star(class("\x40"))}, {star(nothing), star(empty)}, {star(cat(a, b)), cat(star(a), b)},
		{star(cat(cat(a, b), c)), star(cat(a, cat(b, c)))}, {star(cat(cat(a, b), c)), star(cat(cat(a, b), d))}, {empty, star(empty)}, {odd, {Kind: 9, Min: 3}}, {odd, {Kind: 8, Min: 3, Subs: []api.Node{a}}},
		{cat(rep(a, 2, 3), b), cat(rep(a, 3, 2), b)}, {star(cat(a)), star(cat(a, a))}, {cat(cat(a), star(a)), cat(cat(a, star(a)))},
	} {
		x, y := pair[0], pair[1]
		alts(t, alt(x, y), x, y)
		alts(t, alt(y, x), y, x, y, x, x)
		alts(t, alt(cat(a, x), cat(a, y)), cat(a, x), cat(a, y), cat(a, x))
	}
	// Those whose lists are nil and empty are the same.
	alts(t, empty, empty, api.Node{Kind: api.Empty, Subs: []api.Node{}})
	simples(t, map[string]string{
		"a*|a*": "a*", "a*|b*|a*": "a*|b*", "||": "", "a||b|": "[ab]|", "ab|ab|ab": "ab", "(ab)c|a(bc)": "abc", "(a+)*|a*|(a?)*": "a*", "a{0}|()|b*|()*": "|b*", "(a|b)*|[ab]*": "[ab]*",
		"a{2}|a{2,2}": "a{2}", "ab|(ab){1}|ac": "ab|ac", "(ab|cd)*|(ab|cd|ab)*": "(ab|cd)*",
	})
}

// P10.1: Rep of Max 0, of Empty, of nothing, and of Min 1 and Max 1.
func TestRep(t *testing.T) {
	for _, n := range []api.Node{a, empty, nothing, star(a), rep(a, 0, 1), rep(a, 1, -1), rep(a, 2, 3), cat(a, b), alt(star(a), empty), odd} {
		reps(t, empty, n, 0, 0)
		reps(t, n, n, 1, 1)
		reps(t, empty, n, 1, 0)
	}
	for least := range 21 {
		for _, most := range []int{-1, least, min(20, least+3), 20} {
			want := nothing
			if least == 0 {
				want = empty
			}
			reps(t, want, nothing, least, most)
			reps(t, empty, empty, least, most)
			if most == 0 || least == 1 && most == 1 {
				continue
			}
			for _, n := range []api.Node{a, anyByte, cat(a, b), alt(star(a), empty), rep(a, 2, 3), rep(a, 2, -1), rep(a, 20, 20)} {
				reps(t, rep(n, least, most), n, least, most)
			}
		}
	}
	simples(t, map[string]string{
		"a{0}": "", "a{0,0}": "", "(ab|c){0}": "", "[]{0}": "", "(){0}": "", "()*": "", "()+": "", "()?": "", "(){3,5}": "", "[]*": "", "[]?": "", "[]{0,5}": "", "[]+": "[]", "[]{1}": "[]", "[]{2,3}": "[]", "[]{1,}": "[]",
		"a{1}": "a", "a{1,1}": "a", "(ab){1}": "ab", "(a|){1}": "a|", "(a{2}){1}": "a{2}", "(a{1}){2}": "a{2}", "a{2}": "a{2}", "a{2,3}": "a{2,3}", "a?": "a?", "a+": "a+", "a*": "a*", "a{1,2}": "a{1,2}", "a{20,}": "a{20,}",
	})
}

// P10.1: Rep of Rep from 0 to -1 is that one, whatever its own times are.
func TestRepOfStar(t *testing.T) {
	for _, s := range []api.Node{star(a), star(cat(a, b)), star(alt(cat(a, b), empty)), star(rep(a, 2, 2))} {
		for least := range 21 {
			reps(t, s, s, least, -1)
			for most := max(1, least); most <= 20; most++ {
				reps(t, s, s, least, most)
			}
		}
		reps(t, empty, s, 0, 0)
	}
	simples(t, map[string]string{"(a*)*": "a*", "(a*)+": "a*", "(a*)?": "a*", "(a*){3}": "a*", "(a*){2,5}": "a*", "(a*){1}": "a*", "(a*){0}": "", "((a*)+)?": "a*", "((a*){2}){3,}": "a*"})
}

// P10.1: Rep from 0 to -1 of Rep of Min 0 or 1 is that of its Sub, put together simply.
func TestStarOfRep(t *testing.T) {
	for _, n := range []api.Node{a, cat(a, b), alt(star(a), empty), rep(a, 2, 3), rep(a, 2, -1)} {
		for _, least := range []int{0, 1} {
			for _, most := range []int{-1, 1, 2, 20} {
				m := rep(n, least, most)
				reps(t, star(n), m, 0, -1)
				if least == 0 && most == -1 {
					continue
				}
				// Not of other times.
				for _, times := range [][2]int{{1, -1}, {0, 1}, {0, 20}, {2, -1}, {1, 2}} {
					reps(t, rep(m, times[0], times[1]), m, times[0], times[1])
				}
			}
		}
		for _, least := range []int{2, 3, 20} {
			reps(t, star(rep(n, least, -1)), rep(n, least, -1), 0, -1)
			reps(t, star(rep(n, least, 20)), rep(n, least, 20), 0, -1)
		}
	}
	// What is left is put together simply, again and again.
	reps(t, star(a), rep(star(a), 0, 1), 0, -1)
	reps(t, star(a), rep(rep(a, 0, 1), 1, 20), 0, -1)
	reps(t, star(a), rep(rep(rep(a, 1, -1), 0, 1), 1, 2), 0, -1)
	reps(t, star(rep(rep(a, 1, -1), 2, 2)), rep(rep(rep(a, 1, -1), 2, 2), 1, 2), 0, -1)
	simples(t, map[string]string{
		"(a+)*": "a*", "(a?)*": "a*", "(a{0,5})*": "a*", "(a{1,5})*": "a*", "((a?)+)*": "a*", "((a+)?)*": "a*", "((a{0,3}){1,4})*": "a*", "((ab)+)*": "(ab)*", "((a|b)?)*": "[ab]*",
		"(a{2})*": "(a{2})*", "(a{2,})*": "(a{2,})*", "(a{2,3})*": "(a{2,3})*", "((a{2})+)*": "(a{2})*", "((a+){2})*": "((a+){2})*",
		"(a+)+": "(a+)+", "(a+)?": "(a+)?", "(a?)+": "(a?)+", "(a?)?": "(a?)?", "(a+){0,5}": "(a+){0,5}", "(a?){2,}": "(a?){2,}", "(a{0})*": "", "(()+)*": "", "([]+)*": "", "([]?)*": "",
	})
}

// P10.1: several of these within one another.
func TestSeveral(t *testing.T) {
	simples(t, map[string]string{
		"((a|b)(c|d[])|e[])?":            "([ab]c)?",
		"(()|[]){3}|(ab){1}(c|)":         "|ab(c|)",
		"((a*|b)|(c|a*)){1}":             "a*|[bc]",
		"(((a|b)+)?)*(c(d()))":           "[ab]*cd",
		"((()a)()|(b|[]))(c{0}|)":        "[ab]",
		"((ab)(cd)|(a(bc))d)+":           "(abcd)+",
		"(x[]|(y|z)w{1}){2}":             "([yz]w){2}",
		"(a[]){0}b|(()[]?)c|b":           "[bc]",
		"((a|b)|(c|d*))|((b|a)|(d*|e*))": "[a-c]|d*|e*",
		"(a(b|c)|a[bc])*|((a[b-c])+)*":   "(a[bc])*",
		"[]+|[]{2}|(a[]b)+":              "[]",
		"([]*|a{0})(()|(){2})":           "",
		"(((a{1}){1}){1}b{1}){1}":        "ab",
		"((a|[])?|())+(b|[])":            "(a?|)+b",
		"((a?)*|(a+)*|(a{1,3})*)b(c|c)":  "a*bc",
	})
}

// P10.1: wide rows whose Subs are all unlike end soon; so do those with many that are the same.
func TestWideRows(t *testing.T) {
	var row []api.Node
	for i := range 256 {
		for least := range 20 {
			for most := least + 1; most <= 20; most++ {
				row = append(row, rep(class(string([]byte{byte(i)})), least, most))
			}
		}
	}
	want := alt(row...)
	if got := simplify.Alt(row...); !regex.Same(got, want) {
		t.Errorf("got %d of %d Subs", len(got.Subs), len(row))
	}
	if got := simplify.Alt(slices.Concat(row, row, row)...); !regex.Same(got, want) {
		t.Errorf("got %d of %d Subs", len(got.Subs), len(row))
	}
	if got := simplify.Cat(row...); !regex.Same(got, cat(row...)) {
		t.Errorf("got %d of %d Subs", len(got.Subs), len(row))
	}
	if got, e := simplify.Simple(alt(slices.Concat(row, row)...)); e != api.OK || !regex.Same(got, want) {
		t.Errorf("got %d of %d Subs, error %d", len(got.Subs), len(row), e)
	}
}

// P10.1: as deep as an expression may be, which is deeper than calls within calls can go.
func TestDeepSubs(t *testing.T) {
	const deep = 1 << 22
	chain := make([]api.Node, deep)
	for i := range chain {
		chain[i] = api.Node{Kind: api.Rep, Min: 2, Max: 3, Subs: []api.Node{a}}
		if i+1 < deep {
			chain[i].Subs = chain[i+1 : i+2]
		}
	}
	n, less := chain[0], chain[1]
	is := func(got, want api.Node) {
		t.Helper()
		if !regex.Same(got, want) {
			t.Error("a deep one isn't put together as it should be")
		}
	}
	is(simplify.Cat(n), n)
	is(simplify.Cat(empty, n, a), cat(n, a))
	is(simplify.Cat(n, nothing), nothing)
	is(simplify.Alt(n, n), n)
	is(simplify.Alt(n, less, n), alt(n, less))
	is(simplify.Rep(less, 2, 3), n)
	is(simplify.Rep(n, 0, 0), empty)
	for i := range chain {
		chain[i].Min = i % 2
	}
	is(simplify.Rep(chain[0], 0, -1), star(a))
	chain[deep-1].Subs = []api.Node{nothing}
	is(simplify.Rep(chain[0], 0, -1), empty)
	got := simplify.Cat(n)
	got.Subs[0].Kind = 99
	if chain[1].Kind != api.Rep {
		t.Error("the answer isn't new memory")
	}
}
