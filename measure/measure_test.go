package measure_test

import (
	"math"
	"slices"
	"testing"

	"sieve/api"
	"sieve/measure"
	"sieve/regex"
	"sieve/show"
)

func setOf(bytes string) (a api.Set) {
	for i := range len(bytes) {
		a[bytes[i]/64] |= 1 << (bytes[i] % 64)
	}
	return a
}

func others(a api.Set) api.Set {
	return api.Set{^a[0], ^a[1], ^a[2], ^a[3]}
}

func class(bytes string) api.Node {
	return api.Node{Kind: api.Class, Set: setOf(bytes)}
}

func cat(list ...api.Node) api.Node {
	return api.Node{Kind: api.Cat, Subs: list}
}

func alt(list ...api.Node) api.Node {
	return api.Node{Kind: api.Alt, Subs: list}
}

func rep(n api.Node, least, most int) api.Node {
	return api.Node{Kind: api.Rep, Min: least, Max: most, Subs: []api.Node{n}}
}

func star(n api.Node) api.Node { return rep(n, 0, -1) }

// nested: the expression, wrapped as often as is told.
func nested(n api.Node, many int, wrap func(api.Node) api.Node) api.Node {
	for range many {
		n = wrap(n)
	}
	return n
}

var (
	empty, nothing, anyByte = api.Node{Kind: api.Empty}, class(""), api.Node{Kind: api.Class, Set: all}
	a, b, c                 = class("a"), class("b"), class("c")
	all                     = others(api.Set{})
)

// name is the expression's text, to tell of it.
func name(n api.Node) string {
	s, e := show.Text(n)
	if e != api.OK {
		return "what isn't right"
	}
	return s
}

// parse is the expression of a text of the grammar.
func parse(t *testing.T, s string) api.Node {
	t.Helper()
	n, at, e := regex.Parse(s)
	if e != api.OK {
		t.Fatalf("%q is wrong at %d", s, at)
	}
	return n
}

// counts: the expression has so many nodes, and is so wide.
func counts(t *testing.T, n api.Node, size, wide int) {
	t.Helper()
	if got := measure.Size(n); got != size {
		t.Errorf("%s: got size %d, want %d", name(n), got, size)
	}
	if got := measure.Wide(n); got != wide {
		t.Errorf("%s: got wide %d, want %d", name(n), got, wide)
	}
}

// classes: the expression has these sets, in that order.
func classes(t *testing.T, n api.Node, want ...api.Set) {
	t.Helper()
	if got := measure.Sets(n); !slices.Equal(got, want) {
		t.Errorf("%s: got sets %x, want %x", name(n), got, want)
	}
}

// matches: the expression's texts begin with these bytes, and are so long (-1, -1: it has none); the empty one is among them just if the shortest one has no byte.
func matches(t *testing.T, n api.Node, first api.Set, least, most int) {
	t.Helper()
	if got := measure.First(n); got != first {
		t.Errorf("%s: got first %x, want %x", name(n), got, first)
	}
	if gotLeast, gotMost := measure.Length(n); gotLeast != least || gotMost != most {
		t.Errorf("%s: got length %d, %d, want %d, %d", name(n), gotLeast, gotMost, least, most)
	}
	if got := measure.Nullable(n); got != (least == 0) {
		t.Errorf("%s: got nullable %t", name(n), got)
	}
	if got := measure.None(n); got != (least == -1) {
		t.Errorf("%s: got none %t", name(n), got)
	}
}

// matchesNone: the expression matches no text.
func matchesNone(t *testing.T, n api.Node) {
	t.Helper()
	matches(t, n, api.Set{}, -1, -1)
}

// matchesEmpty: the expression matches the empty text alone.
func matchesEmpty(t *testing.T, n api.Node) {
	t.Helper()
	matches(t, n, api.Set{}, 0, 0)
}

// wrong: each function answers what it does of what isn't right.
func wrong(t *testing.T, n api.Node) {
	t.Helper()
	least, most := measure.Length(n)
	got := []int{measure.Size(n), measure.Wide(n), least, most, len(measure.Sets(n))}
	if !slices.Equal(got, make([]int, 5)) || measure.First(n) != (api.Set{}) || measure.Nullable(n) || measure.None(n) {
		t.Errorf("got %d, %x, %t, %t", got, measure.First(n), measure.Nullable(n), measure.None(n))
	}
}

// wrongEverywhere: so it is of the expression, and of all that have it, at any place and depth, whatever they would be but for it.
func wrongEverywhere(t *testing.T, n api.Node) {
	t.Helper()
	for _, m := range []api.Node{n, cat(n, a), cat(a, n), cat(nothing, n), cat(n, nothing), cat(empty, n), alt(n, a), alt(a, n), alt(empty, n), alt(n, empty, b), rep(n, 1, 2), rep(n, 0, 0), star(n)} {
		wrong(t, m)
		for _, more := range []api.Node{cat(m, b), cat(nothing, b, m), alt(b, m), alt(empty, empty, m), star(m), rep(m, 0, 0), cat(a, alt(b, star(cat(m, a)))), alt(cat(rep(m, 2, 2), b), c)} {
			wrong(t, more)
		}
	}
}

func TestDocExamples(t *testing.T) {
	n := parse(t, "a{2,3}|b*")
	counts(t, n, 5, 14)
	matches(t, n, setOf("ab"), 0, -1)
	if !measure.Nullable(n) || measure.None(n) {
		t.Error("it matches the empty text")
	}
	classes(t, n, setOf("a"), setOf("b"))
}

// P9.1, P9.2: of each kind by itself.
func TestEachKind(t *testing.T) {
	counts(t, empty, 1, 1)
	classes(t, empty)
	matchesEmpty(t, empty)

	counts(t, a, 1, 1)
	classes(t, a, setOf("a"))
	matches(t, a, setOf("a"), 1, 1)

	counts(t, cat(a, b), 3, 3)
	classes(t, cat(a, b), setOf("a"), setOf("b"))
	matches(t, cat(a, b), setOf("a"), 2, 2)

	counts(t, alt(a, b), 3, 3)
	classes(t, alt(a, b), setOf("a"), setOf("b"))
	matches(t, alt(a, b), setOf("ab"), 1, 1)

	counts(t, star(a), 2, 3)
	classes(t, star(a), setOf("a"))
	matches(t, star(a), setOf("a"), 0, -1)
}

// P9.1: what isn't right by its kind, or by a field.
func TestWrongFields(t *testing.T) {
	for _, kind := range []int{0, -1, 6, 100, 1<<32 + api.Class, math.MaxInt, math.MinInt} {
		for _, n := range []api.Node{empty, a, nothing, cat(a, b), alt(a, empty), star(a)} {
			n.Kind = kind
			wrongEverywhere(t, n)
		}
	}
	for _, n := range []api.Node{empty, a, nothing, cat(a, b), alt(a, b)} {
		for _, times := range [][2]int{{1, 0}, {0, 1}, {0, -1}, {1, 1}, {math.MinInt, 0}, {0, math.MaxInt}} {
			n.Min, n.Max = times[0], times[1]
			wrongEverywhere(t, n)
		}
	}
	for _, n := range []api.Node{empty, cat(a, b), alt(a, b), star(a), rep(a, 0, 0)} {
		for _, set := range []api.Set{setOf("a"), setOf("\x00"), setOf("\xff"), all} {
			n.Set = set
			wrongEverywhere(t, n)
		}
	}
}

// P9.1: what isn't right by its Subs, or by how often they may be there.
func TestWrongSubs(t *testing.T) {
	for _, n := range []api.Node{empty, a, nothing} {
		n.Subs = []api.Node{a}
		wrongEverywhere(t, n)
	}
	for _, kind := range []int{api.Cat, api.Alt} {
		wrongEverywhere(t, api.Node{Kind: kind})
		wrongEverywhere(t, api.Node{Kind: kind, Subs: []api.Node{}})
		for _, n := range []api.Node{a, empty, nothing, cat(a, b)} {
			wrongEverywhere(t, api.Node{Kind: kind, Subs: []api.Node{n}})
		}
	}
	for _, times := range [][2]int{{0, -1}, {1, -1}, {0, 0}, {0, 1}, {20, 20}} {
		n := rep(a, times[0], times[1])
		n.Subs = nil
		wrongEverywhere(t, n)
		n.Subs = []api.Node{a, b}
		wrongEverywhere(t, n)
	}
	for _, times := range [][2]int{{0, 21}, {21, 21}, {21, -1}, {-1, -1}, {-1, 0}, {0, -2}, {1, 0}, {20, 19}, {math.MinInt, -1}, {0, math.MaxInt}, {math.MaxInt, math.MaxInt}, {0, math.MinInt}, {1 << 32, 1 << 32}} {
		wrongEverywhere(t, rep(a, times[0], times[1]))
		wrongEverywhere(t, rep(nothing, times[0], times[1]))
	}
}

// P9.1: 12 brackets open are right, 13 aren't.
func TestWrongBrackets(t *testing.T) {
	for _, w := range []struct {
		wrap                    func(api.Node) api.Node
		size, wide, least, most int
	}{
		{func(n api.Node) api.Node { return rep(n, 1, 1) }, 14, 40, 1, 1},
		{func(n api.Node) api.Node { return cat(n, a) }, 27, 27, 14, 14},
		{func(n api.Node) api.Node { return alt(a, n) }, 27, 27, 1, 1},
		{star, 14, 27, 0, -1},
	} {
		deep := nested(a, 13, w.wrap)
		counts(t, deep, w.size, w.wide)
		matches(t, deep, setOf("a"), w.least, w.most)
		wrongEverywhere(t, w.wrap(deep))
		wrongEverywhere(t, nested(deep, 30, w.wrap))
	}
}

// P9.1: an expression that is as deep as may be handed in, or that holds itself, isn't right, and each call ends.
func TestEndless(t *testing.T) {
	for _, wrap := range []func(api.Node) api.Node{
		star,
		func(n api.Node) api.Node { return cat(n, a) },
		func(n api.Node) api.Node { return alt(empty, n) },
		func(n api.Node) api.Node { return api.Node{Kind: api.Class, Subs: []api.Node{n}} },
		func(n api.Node) api.Node { return api.Node{Subs: []api.Node{n}} },
	} {
		n := nested(a, 1<<21, wrap)
		wrong(t, n)
		wrong(t, cat(a, alt(empty, n)))
	}
	for _, kind := range []int{api.Cat, api.Alt} {
		subs := []api.Node{a, {Kind: kind}, b}
		subs[1].Subs = subs
		wrong(t, subs[1])
	}
	subs := []api.Node{{Kind: api.Rep, Max: -1}}
	subs[0].Subs = subs
	wrong(t, subs[0])
}

// P9.1: Size and Wide of each Rep, by the chapter's own words.
func TestCountsOfRep(t *testing.T) {
	for least := range 21 {
		counts(t, rep(a, least, -1), 2, 2+(least+1)*1)
		counts(t, rep(cat(a, b, c), least, -1), 5, 2+(least+1)*4)
		for most := least; most <= 20; most++ {
			counts(t, rep(a, least, most), 2, 1+most*(1+2))
			counts(t, rep(cat(a, b, c), least, most), 5, 1+most*(4+2))
			counts(t, rep(rep(alt(a, empty), least, most), least, most), 5, 1+most*(1+most*(3+2)+2))
		}
	}
	counts(t, parse(t, "a{0,0}"), 2, 1)
	counts(t, parse(t, "a*"), 2, 3)
	counts(t, parse(t, "a+"), 2, 4)
	counts(t, parse(t, "a?"), 2, 4)
	counts(t, parse(t, "a{1}"), 2, 4)
	counts(t, parse(t, "a{20}"), 2, 61)
	counts(t, parse(t, "a{0,20}"), 2, 61)
	counts(t, parse(t, "a{20,}"), 2, 23)
	counts(t, parse(t, "(a{20,}){20,}"), 3, 485)
	counts(t, parse(t, "(a{20}){0}"), 3, 1)
	counts(t, parse(t, "(a{20}){0,1}"), 3, 64)
	counts(t, parse(t, "(a*)*"), 3, 5)
	counts(t, parse(t, "(a?|b+c){2,3}()"), 10, 1+(1+3*(1+4+(1+4+1)+2))+1)
}

// P9.1: Size and Wide of wide rows.
func TestCountsOfRows(t *testing.T) {
	for _, many := range []int{2, 3, 10, 5000} {
		row := rowOf(a, many)
		counts(t, cat(row...), many+1, many+1)
		counts(t, alt(row...), many+1, many+1)
		matches(t, cat(row...), setOf("a"), many, many)
		matches(t, alt(row...), setOf("a"), 1, 1)
		row[many-1] = rep(b, 2, 5)
		counts(t, cat(row...), many+2, many+16)
		counts(t, alt(row...), many+2, many+16)
		matches(t, cat(row...), setOf("a"), many+1, many+4)
		matches(t, alt(row...), setOf("ab"), 1, 5)
		row[0] = api.Node{Kind: 9}
		wrong(t, cat(row...))
		wrong(t, alt(row...))
	}
}

const widest = 1 << 30

// power is a{20}, so often within itself, and how wide that is.
func power(many int) (n api.Node, wide int) {
	n, wide = a, 1
	for range many {
		n, wide = rep(n, 20, 20), 1+20*(wide+2)
	}
	return n, wide
}

// ofWidth is a Cat that is so wide.
func ofWidth(wide int) api.Node {
	n, left := api.Node{Kind: api.Cat}, wide-1
	for level := 13; level >= 0; level-- {
		for sub, w := power(level); left >= w; left -= w {
			n.Subs = append(n.Subs, sub)
		}
	}
	return n
}

// P9.1: Wide is 2^30 of what is wider, and tells what is just as wide, or less.
func TestWidest(t *testing.T) {
	for _, c := range []struct{ wide, want int }{{4, 4}, {400, 400}, {401, 401}, {widest - 2, widest - 2}, {widest - 1, widest - 1}, {widest, widest}, {widest + 1, widest}, {widest + 2, widest}, {1 << 31, widest}, {1<<32 + 5, widest}, {1<<50 + 1, widest}} {
		n := ofWidth(c.wide)
		counts(t, n, measure.Size(n), c.want)
		n.Kind = api.Alt
		counts(t, n, measure.Size(n), c.want)
	}
	for level := range 14 {
		n, wide := power(level)
		counts(t, n, level+1, min(wide, widest))
	}
	// Just as wide by a Rep: 1 + 3 (w + 2), and 2 + 2 w.
	for more := -2; more <= 2; more++ {
		third, half := ofWidth((widest-7)/3+more), ofWidth(widest/2-1+more)
		counts(t, rep(third, 1, 3), measure.Size(third)+1, min(widest, widest+3*more))
		counts(t, rep(half, 1, -1), measure.Size(half)+1, min(widest, widest+2*more))
	}
	for wide := widest/21 - 3; wide <= widest/21+3; wide++ {
		n := ofWidth(wide)
		counts(t, rep(n, 20, -1), measure.Size(n)+1, min(widest, 2+21*wide))
		counts(t, rep(n, 0, -1), measure.Size(n)+1, 2+wide)
		counts(t, rep(n, 0, 20), measure.Size(n)+1, 1+20*(wide+2))
	}
	for wide := widest/20 - 5; wide <= widest/20+3; wide++ {
		counts(t, rep(ofWidth(wide), 3, 20), measure.Size(ofWidth(wide))+1, min(widest, 1+20*(wide+2)))
	}
	// What may be there no time at all isn't wide, whatever is in it.
	deep, _ := power(11)
	counts(t, rep(deep, 0, 0), 13, 1)
	counts(t, cat(rep(deep, 0, 0), a), 15, 3)
	counts(t, cat(deep, rep(deep, 0, 0), deep), 38, widest)
	counts(t, nested(a, 13, func(n api.Node) api.Node { return rep(n, 20, -1) }), 14, widest)
	counts(t, nested(a, 13, func(n api.Node) api.Node { return rep(n, 0, 20) }), 14, widest)
	row := rowOf(deep, 1000)
	counts(t, cat(row...), 12001, widest)
	counts(t, alt(row...), 12001, widest)
}

// P9.1: Sets are those of all Class nodes, from the left to the right.
func TestSets(t *testing.T) {
	classes(t, empty)
	classes(t, cat(empty, empty))
	classes(t, alt(empty, star(empty)))
	classes(t, nothing, api.Set{})
	classes(t, anyByte, all)
	classes(t, cat(a, a), setOf("a"), setOf("a"))
	classes(t, cat(b, a, b), setOf("b"), setOf("a"), setOf("b"))
	classes(t, alt(c, b, nothing, a, anyByte, c), setOf("c"), setOf("b"), api.Set{}, setOf("a"), all, setOf("c"))
	classes(t, rep(a, 2, 3), setOf("a"))
	classes(t, rep(a, 0, 0), setOf("a"))
	classes(t, rep(cat(a, b), 20, 20), setOf("a"), setOf("b"))
	classes(t, parse(t, "z(y|x*(w|)v)u|t((s)r{0}q+|p)o"), setOf("z"), setOf("y"), setOf("x"), setOf("w"), setOf("v"), setOf("u"), setOf("t"), setOf("s"), setOf("r"), setOf("q"), setOf("p"), setOf("o"))
	classes(t, parse(t, "[a-c]|[c-z]"), setOf("abc"), setOf("cdefghijklmnopqrstuvwxyz"))
	row, want := make([]api.Node, 256), make([]api.Set, 256)
	for i := range row {
		row[i] = class(string([]byte{byte(255 - i)}))
		want[i] = row[i].Set
	}
	classes(t, cat(row...), want...)
	classes(t, alt(row...), want...)
}

// P9.2: a Class of no bytes, of one, of all, by itself and as a part.
func TestClasses(t *testing.T) {
	matchesNone(t, nothing)
	matchesNone(t, cat(nothing, a))
	matchesNone(t, cat(a, nothing))
	matchesNone(t, cat(a, star(b), nothing, c))
	matchesNone(t, cat(empty, nothing))
	matchesNone(t, cat(nothing, empty))
	matchesNone(t, alt(nothing, nothing))
	matches(t, alt(nothing, a), setOf("a"), 1, 1)
	matches(t, alt(a, nothing), setOf("a"), 1, 1)
	matchesEmpty(t, alt(nothing, empty))
	matchesEmpty(t, alt(empty, nothing))
	matches(t, anyByte, all, 1, 1)
	matches(t, cat(anyByte, a), all, 2, 2)
	matches(t, cat(a, anyByte), setOf("a"), 2, 2)
	matches(t, cat(star(a), anyByte), all, 1, -1)
	matches(t, alt(anyByte, cat(a, b)), all, 1, 2)
	matches(t, alt(cat(a, b), anyByte), all, 1, 2)
	matches(t, rep(anyByte, 2, 3), all, 2, 3)
	for i := range 256 {
		one := setOf(string([]byte{byte(i)}))
		n, other := api.Node{Kind: api.Class, Set: one}, api.Node{Kind: api.Class, Set: others(one)}
		matches(t, n, one, 1, 1)
		matches(t, other, others(one), 1, 1)
		matches(t, cat(n, other), one, 2, 2)
		matches(t, cat(other, n), others(one), 2, 2)
		matches(t, alt(n, other), all, 1, 1)
		matches(t, rep(n, 3, 4), one, 3, 4)
		classes(t, alt(other, n), others(one), one)
	}
}

// P9.2: no text is matched; and a Rep that may be there not at all, or must.
func TestNoText(t *testing.T) {
	for _, n := range []api.Node{nothing, cat(nothing, a), cat(a, nothing), alt(nothing, nothing), alt(nothing, cat(a, nothing)), rep(nothing, 1, 1), cat(star(a), nothing, star(b)), rep(cat(a, nothing), 3, -1)} {
		matchesNone(t, n)
		for most := range 21 {
			matchesEmpty(t, rep(n, 0, most))
		}
		matchesEmpty(t, rep(n, 0, -1))
		for least := 1; least <= 20; least++ {
			matchesNone(t, rep(n, least, least))
			matchesNone(t, rep(n, least, 20))
			matchesNone(t, rep(n, least, -1))
		}
		matchesNone(t, cat(n, a))
		matchesNone(t, cat(star(a), n))
		matchesNone(t, cat(anyByte, b, n))
		matches(t, alt(n, cat(a, b), n), setOf("a"), 2, 2)
		matches(t, alt(n, star(a)), setOf("a"), 0, -1)
		matches(t, cat(star(n), a), setOf("a"), 1, 1)
		matches(t, cat(a, rep(n, 0, 1), b), setOf("a"), 2, 2)
		matches(t, star(alt(n, a)), setOf("a"), 0, -1)
		matches(t, rep(alt(a, n), 2, 3), setOf("a"), 2, 3)
	}
}

// P9.2: the empty text alone is matched, however often it is there.
func TestEmptyTextAlone(t *testing.T) {
	for _, n := range []api.Node{empty, cat(empty, empty), alt(empty, empty), rep(a, 0, 0), rep(anyByte, 0, 0), star(nothing), star(empty), rep(empty, 1, -1), alt(empty, nothing), cat(star(nothing), rep(b, 0, 0)), rep(star(a), 0, 0)} {
		matchesEmpty(t, n)
		for _, times := range [][2]int{{0, -1}, {1, -1}, {20, -1}, {0, 0}, {0, 1}, {1, 1}, {0, 20}, {1, 20}, {20, 20}} {
			matchesEmpty(t, rep(n, times[0], times[1]))
		}
		matches(t, cat(n, a), setOf("a"), 1, 1)
		matches(t, cat(n, a, n, b, n), setOf("a"), 2, 2)
		matches(t, alt(n, a), setOf("a"), 0, 1)
		matches(t, alt(cat(a, b), n), setOf("a"), 0, 2)
		matches(t, star(alt(n, a)), setOf("a"), 0, -1)
		matches(t, rep(alt(n, a), 2, 3), setOf("a"), 0, 3)
		matchesNone(t, cat(n, nothing))
	}
}

// P9.2: there is no longest text, or there is one, though a part has none.
func TestNoLongest(t *testing.T) {
	matches(t, star(a), setOf("a"), 0, -1)
	matches(t, rep(a, 1, -1), setOf("a"), 1, -1)
	matches(t, rep(a, 20, -1), setOf("a"), 20, -1)
	matches(t, cat(star(a), b), setOf("ab"), 1, -1)
	matches(t, cat(b, star(a)), setOf("b"), 1, -1)
	matches(t, cat(star(a), star(b)), setOf("ab"), 0, -1)
	matches(t, alt(star(a), cat(b, b)), setOf("ab"), 0, -1)
	matches(t, alt(cat(b, b), rep(a, 1, -1)), setOf("ab"), 1, -1)
	matches(t, alt(rep(a, 3, -1), rep(b, 2, -1)), setOf("ab"), 2, -1)
	matches(t, rep(star(a), 0, 1), setOf("a"), 0, -1)
	matches(t, rep(rep(a, 2, -1), 3, 3), setOf("a"), 6, -1)
	matches(t, star(star(a)), setOf("a"), 0, -1)
	matches(t, star(rep(a, 0, 1)), setOf("a"), 0, -1)
	matches(t, rep(rep(a, 0, 1), 5, -1), setOf("a"), 0, -1)
	matches(t, rep(alt(empty, cat(a, b)), 2, -1), setOf("a"), 0, -1)
	matchesNone(t, cat(star(a), nothing))
	matchesNone(t, cat(nothing, star(a)))
	matchesEmpty(t, rep(star(a), 0, 0))
	matches(t, alt(cat(star(a), nothing), b), setOf("b"), 1, 1)
	matches(t, alt(b, rep(star(a), 0, 0)), setOf("b"), 0, 1)
	matches(t, cat(rep(star(a), 0, 0), b), setOf("b"), 1, 1)
}

// P9.2: First goes on behind what may be empty, and no further.
func TestFirst(t *testing.T) {
	for s, want := range map[string]string{
		"abc": "a", "a?bc": "ab", "a?b?c": "abc", "a*b?c*": "abc", "a?b?c?d": "abcd", "ab?c": "a", "()a": "a", "()()a|b": "ab",
		"(a|)b": "ab", "(|a)(b|)c": "abc", "(a|b)c": "ab", "(a?b?)c": "abc", "(a?b)?c": "abc", "(a?b)c": "ab", "(ab?|c)d": "ac",
		"a{0}b": "b", "a{0,1}b": "ab", "a{1}b": "a", "a{0,20}b": "ab", "a{20}b": "a", "(a?){20}b": "ab", "(a?){20,}b": "ab", "(a?b?){2}c": "abc",
		"(a?b){2}c": "ab", "(a|b|c?)d": "abcd", "[]?a": "a", "[]|a": "a", "a?[]": "", "a?[]|b": "b", "(a[]|b)?c": "bc", "(a?[])*c": "c", "[ab]?[bc]": "abc",
		"a+b": "a", "(a*)+b": "ab", "(a*b*)*c": "abc", "": "", "()": "", "(a{0}b{0})*": "", "a{0}": "", "(a|b?){0}c": "c",
	} {
		if got := measure.First(parse(t, s)); got != setOf(want) {
			t.Errorf("%q: got %x, want those of %q", s, got, want)
		}
	}
}

// P9.2: lengths of what is put together.
func TestLength(t *testing.T) {
	for s, want := range map[string][2]int{
		"": {0, 0}, "abc": {3, 3}, "a|bc|def": {1, 3}, "def|a|bc": {1, 3}, "|abc": {0, 3}, "abc|": {0, 3}, "a?b?c?": {0, 3}, "(a|bc)(d|efg)": {2, 5},
		"a{2,5}": {2, 5}, "(ab|c){2,5}": {2, 10}, "(a?){2,5}": {0, 5}, "(a{2,3}){4,5}": {8, 15}, "(a{20}){20}": {400, 400}, "(a{0,20}){20}": {0, 400},
		"a{3}|b{2}": {2, 3}, "a{3,}|b{2}": {2, -1}, "a+b+": {2, -1}, "(a{2,}b){3}": {9, -1}, "(ab)*": {0, -1}, "[]": {-1, -1}, "[]*": {0, 0}, "[]+": {-1, -1}, "a[]|bc": {2, 2},
	} {
		if least, most := measure.Length(parse(t, s)); least != want[0] || most != want[1] {
			t.Errorf("%q: got %d, %d, want %d", s, least, most, want)
		}
	}
	for least := range 21 {
		matches(t, rep(cat(a, b), least, -1), setOf("a"), 2*least, -1)
		for most := max(1, least); most <= 20; most++ {
			matches(t, rep(a, least, most), setOf("a"), least, most)
			matches(t, rep(cat(a, rep(b, 0, 1)), least, most), setOf("a"), least, 2*most)
			matches(t, rep(rep(a, least, most), least, most), setOf("a"), least*least, most*most)
		}
	}
}

// rowOf: the expression, so often.
func rowOf(n api.Node, many int) []api.Node {
	row := make([]api.Node, many)
	for i := range row {
		row[i] = n
	}
	return row
}

// P9.2: very long texts: as long as they are, and the greatest int of those whose length no int holds, which are there all the same.
func TestVeryLong(t *testing.T) {
	one, long := setOf("a"), 1
	for level := range 13 {
		n, _ := power(level)
		matches(t, n, one, long, long)
		matches(t, alt(n, rep(a, 0, 1)), one, 0, long)
		matches(t, cat(n, star(b)), one, long, -1)
		long *= 20
	}
	deepest, _ := power(13)
	matches(t, deepest, one, long, long)
	// 112 times 20 to the 13th is below 2^63, 113 times is above.
	matches(t, cat(rowOf(deepest, 112)...), one, 112*long, 112*long)
	for _, many := range []int{113, 225, 226, 1000} {
		row := rowOf(deepest, many)
		matches(t, cat(row...), one, math.MaxInt, math.MaxInt)
		matches(t, cat(append(row, star(c))...), one, math.MaxInt, -1)
		matches(t, alt(cat(row...), c), setOf("ac"), 1, math.MaxInt)
		matchesNone(t, cat(append(row, nothing)...))
	}
	// 339 times 20 to the 12th is below 2^63, 20 times that is above.
	less, _ := power(11)
	once := rep(cat(rowOf(less, 339)...), 20, 20)
	matches(t, once, one, 339*(long/20), 339*(long/20))
	matches(t, rep(once, 1, 6), one, 339*(long/20), 6*339*(long/20))
	matches(t, rep(once, 1, 7), one, 339*(long/20), math.MaxInt)
	matches(t, rep(once, 6, 20), one, 6*339*(long/20), math.MaxInt)
	matches(t, rep(once, 7, 20), one, math.MaxInt, math.MaxInt)
	matches(t, rep(once, 20, -1), one, math.MaxInt, -1)
	matches(t, rep(once, 0, 20), one, 0, math.MaxInt)
}

// P9.1, P9.2: what is handed in stays as it is, its spare room too, and what is answered is new.
func TestNothingIsChangedOrKept(t *testing.T) {
	spare := append(make([]api.Node, 0, 5), a, alt(b, empty), star(c))
	spare = append(spare, api.Node{Kind: 9, Subs: []api.Node{a}})[:3]
	n := api.Node{Kind: api.Cat, Subs: spare}
	for range 2 {
		counts(t, n, 7, 8)
		matches(t, n, setOf("a"), 1, -1)
		classes(t, n, setOf("a"), setOf("b"), setOf("c"))
		list := measure.Sets(n)
		for i := range list {
			list[i] = all
		}
		_ = append(list, all, all)
	}
	if !regex.Same(cat(spare[:5]...), cat(a, alt(b, empty), star(c), api.Node{Kind: 9, Subs: []api.Node{a}}, api.Node{})) {
		t.Error("the Subs were changed")
	}
	one := measure.Sets(n)
	measure.Sets(n)[0] = all
	if one[0] != setOf("a") {
		t.Error("two answers share memory")
	}
}
