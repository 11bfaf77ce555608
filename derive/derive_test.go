package derive_test

import (
	"fmt"
	"math"
	"reflect"
	"slices"
	"strings"
	"testing"

	"sieve/api"
	"sieve/derive"
	"sieve/regex"
	"sieve/show"
	"sieve/simplify"
)

func setOf(bytes string) (a api.Set) {
	for i := range len(bytes) {
		a[bytes[i]/64] |= 1 << (bytes[i] % 64)
	}
	return a
}

func others(a api.Set) api.Set {
	return api.Set{^a[0], ^a[1], ^a[2], ^a[3]}
}

func class(bytes string) api.Node {
	return api.Node{Kind: api.Class, Set: setOf(bytes)}
}

func cat(list ...api.Node) api.Node {
	return api.Node{Kind: api.Cat, Subs: list}
}

func alt(list ...api.Node) api.Node {
	return api.Node{Kind: api.Alt, Subs: list}
}

func rep(n api.Node, least, most int) api.Node {
	return api.Node{Kind: api.Rep, Min: least, Max: most, Subs: []api.Node{n}}
}

func star(n api.Node) api.Node { return rep(n, 0, -1) }

func maybe(n api.Node) api.Node { return rep(n, 0, 1) }

// nested: the expression, wrapped as often as is told.
func nested(n api.Node, many int, wrap func(api.Node) api.Node) api.Node {
	for range many {
		n = wrap(n)
	}
	return n
}

// rowOf: the expression, so often.
func rowOf(n api.Node, many int) []api.Node {
	return slices.Repeat([]api.Node{n}, many)
}

// catOf: so many of it, as one.
func catOf(n api.Node, many int) api.Node {
	switch many {
	case 0:
		return empty
	case 1:
		return n
	}
	return cat(rowOf(n, many)...)
}

var (
	empty, nothing = api.Node{Kind: api.Empty}, class("")
	a, b, c, d     = class("a"), class("b"), class("c"), class("d")
	anyByte        = api.Node{Kind: api.Class, Set: others(api.Set{})}
	odd            = api.Node{Kind: 9, Min: 3, Subs: []api.Node{a}} // of no kind
)

// name is the expression's text, to tell of it.
func name(n api.Node) string {
	if s, e := show.Text(n); e == api.OK {
		return fmt.Sprintf("%.300q", s)
	}
	return fmt.Sprintf("%.300s", fmt.Sprintf("what isn't right, %v", n))
}

// parse is the expression of a text of the grammar.
func parse(t *testing.T, s string) api.Node {
	t.Helper()
	n, at, e := regex.Parse(s)
	if e != api.OK {
		t.Fatalf("%q is wrong at %d", s, at)
	}
	return n
}

func equal(x, y api.Node) bool {
	return x.Kind == y.Kind && x.Set == y.Set && x.Min == y.Min && x.Max == y.Max && slices.EqualFunc(x.Subs, y.Subs, equal)
}

func simplest(t *testing.T, n api.Node) api.Node {
	t.Helper()
	n, e := simplify.Simple(n)
	if e != api.OK {
		t.Fatal("what should be right isn't")
	}
	return n
}

func sizeOf(n api.Node) int {
	size := 1
	for _, s := range n.Subs {
		size += sizeOf(s)
	}
	return size
}

// roomy is the list, and each one within it, with spare room behind it that isn't blank.
func roomy(list []api.Node) []api.Node {
	row := make([]api.Node, 0, len(list)+2)
	for _, n := range list {
		n.Subs = roomy(n.Subs)
		row = append(row, n)
	}
	return append(row, odd, api.Node{Kind: 7})[:len(list)]
}

// memory has all that a list holds, its spare room too.
type memory struct {
	length int
	nodes  []api.Node
	below  []memory
}

func memoryOf(list []api.Node) memory {
	m := memory{length: len(list)}
	for _, n := range list[:cap(list)] {
		m.below = append(m.below, memoryOf(n.Subs))
		n.Subs = nil
		m.nodes = append(m.nodes, n)
	}
	return m
}

// places adds those of all nodes that a list holds, its spare room too, and tells whether each was new.
func places(seen map[*api.Node]bool, list []api.Node) bool {
	fresh := true
	for i := range list[:cap(list)] {
		p := &list[:cap(list)][i]
		fresh = fresh && !seen[p]
		seen[p] = true
		fresh = places(seen, p.Subs) && fresh
	}
	return fresh
}

// by: what is left behind the byte is that, in new memory, and what was handed in is as it was.
func by(t *testing.T, n api.Node, b byte, want api.Node) {
	t.Helper()
	answers(t, n, string([]byte{b}), want, func(n api.Node) (api.Node, api.Errno) { return derive.By(n, b) })
}

// word: so it is behind the text.
func word(t *testing.T, n api.Node, s string, want api.Node) {
	t.Helper()
	answers(t, n, s, want, func(n api.Node) (api.Node, api.Errno) { return derive.Word(n, s) })
}

func answers(t *testing.T, n api.Node, s string, want api.Node, call func(n api.Node) (api.Node, api.Errno)) {
	t.Helper()
	handed := roomy([]api.Node{n})
	before := memoryOf(handed)
	got, e := call(handed[0])
	if e != api.OK || !equal(got, want) {
		t.Errorf("%s behind %.40q: got %s, %d, want %s", name(n), s, name(got), e, name(want))
	}
	if !reflect.DeepEqual(memoryOf(handed), before) {
		t.Errorf("%s behind %.40q: what was handed in isn't as it was", name(n), s)
	}
	seen := map[*api.Node]bool{}
	places(seen, handed)
	if !places(seen, got.Subs) {
		t.Errorf("%s behind %.40q: the answer %s isn't new memory, each list by itself", name(n), s, name(got))
	}
}

// matches: Match tells so of the text.
func matches(t *testing.T, n api.Node, s string, want bool) {
	t.Helper()
	if got, e := derive.Match(n, s); e != api.OK || got != want {
		t.Errorf("%s of %.40q: got match %t, %d", name(n), s, got, e)
	}
}

// longest: Longest tells that place, or -1.
func longest(t *testing.T, n api.Node, s string, from, want int) {
	t.Helper()
	if got, e := derive.Longest(n, s, from); e != api.OK || got != want {
		t.Errorf("%s of %.40q from %d: got longest %d, %d, want %d", name(n), s, from, got, e, want)
	}
}

// longestOf: so it is of an expression's text.
func longestOf(t *testing.T, re, s string, from, want int) {
	t.Helper()
	longest(t, parse(t, re), s, from, want)
}

// left: of an expression's text that text's expression is left, whichever function is asked.
func left(t *testing.T, re, s, want string) {
	t.Helper()
	n, rest := parse(t, re), parse(t, want)
	word(t, n, s, rest)
	if len(s) == 1 {
		by(t, n, s[0], rest)
	}
	follow(t, n, s)
}

// lefts: so it is of each text that is told, behind the byte a.
func lefts(t *testing.T, list map[string]string) {
	t.Helper()
	for re, want := range list {
		left(t, re, "a", want)
	}
}

// refused: Word, Match and Longest answer that error.
func refused(t *testing.T, n api.Node, s string, from int, want api.Errno) {
	t.Helper()
	if got, e := derive.Word(n, s[from:]); e != want || !equal(got, api.Node{}) {
		t.Errorf("%s behind %.40q: got %s, %d, want %d", name(n), s[from:], name(got), e, want)
	}
	if got, e := derive.Match(n, s[from:]); e != want || got {
		t.Errorf("%s of %.40q: got match %t, %d, want %d", name(n), s[from:], got, e, want)
	}
	noLongest(t, n, s, from, want)
}

func noLongest(t *testing.T, n api.Node, s string, from int, want api.Errno) {
	t.Helper()
	if got, e := derive.Longest(n, s, from); e != want || got != 0 {
		t.Errorf("%s of %.40q from %d: got longest %d, %d, want %d", name(n), s, from, got, e, want)
	}
}

// outside has places that a text of so many bytes hasn't.
func outside(long int) []int {
	return []int{-1, -2, -64, math.MinInt, long + 1, long + 2, long + 64, math.MaxInt}
}

// wrong: each function refuses what isn't right, from any place.
func wrong(t *testing.T, n api.Node) {
	t.Helper()
	for _, b := range []byte{0, 'a', 255} {
		if got, e := derive.By(n, b); e != api.ErrArg || !equal(got, api.Node{}) {
			t.Errorf("by %d: got %s, %d", b, name(got), e)
		}
	}
	for _, s := range []string{"", "a", "aab"} {
		for from := range len(s) + 1 {
			refused(t, n, s, from, api.ErrArg)
		}
		for _, from := range outside(len(s)) {
			noLongest(t, n, s, from, api.ErrArg)
		}
	}
}

// wrongEverywhere: so it is of the expression, and of all that have it, at any place and depth, also where it would be left out.
func wrongEverywhere(t *testing.T, n api.Node) {
	t.Helper()
	for _, m := range []api.Node{n, cat(n, a), cat(a, n), cat(nothing, n), cat(n, nothing), cat(empty, n), alt(n, a), alt(a, n), alt(empty, n), alt(n, n, b), rep(n, 1, 2), rep(n, 0, 0), rep(n, 1, 1), star(n)} {
		wrong(t, m)
		for _, more := range []api.Node{cat(m, b), cat(nothing, b, m), alt(b, m), star(m), rep(m, 0, 0), cat(a, alt(b, star(cat(m, a)))), alt(cat(rep(m, 2, 2), b), c)} {
			wrong(t, more)
		}
	}
}

func TestDocExamples(t *testing.T) {
	left(t, "ab|ac", "a", "[bc]")
	left(t, "a*", "a", "a*")
	longestOf(t, "a*b?", "aac", 0, 2)
}

// P12.1, P12.2: what isn't right by its kind, or by a field.
func TestWrongFields(t *testing.T) {
	for _, kind := range []int{0, -1, 6, 1<<32 + api.Class, math.MaxInt, math.MinInt} {
		for _, n := range []api.Node{empty, a, cat(a, b), alt(a, empty), star(a)} {
			n.Kind = kind
			wrongEverywhere(t, n)
		}
	}
	for _, n := range []api.Node{empty, a, nothing, cat(a, b), alt(a, b)} {
		for _, times := range [][2]int{{1, 0}, {0, 1}, {0, -1}, {math.MinInt, 0}, {0, math.MaxInt}} {
			n.Min, n.Max = times[0], times[1]
			wrongEverywhere(t, n)
		}
	}
	for _, n := range []api.Node{empty, cat(a, b), alt(a, b), star(a), rep(a, 0, 0)} {
		for _, set := range []api.Set{setOf("a"), setOf("\xff"), anyByte.Set} {
			n.Set = set
			wrongEverywhere(t, n)
		}
	}
}

// P12.1, P12.2: what isn't right by its Subs, or by how often they may be there.
func TestWrongSubs(t *testing.T) {
	for _, n := range []api.Node{empty, a, nothing} {
		n.Subs = []api.Node{a}
		wrongEverywhere(t, n)
	}
	for _, kind := range []int{api.Cat, api.Alt} {
		wrongEverywhere(t, api.Node{Kind: kind})
		for _, n := range []api.Node{a, empty, nothing, cat(a, b)} {
			wrongEverywhere(t, api.Node{Kind: kind, Subs: []api.Node{n}})
		}
	}
	for _, times := range [][2]int{{0, -1}, {1, -1}, {0, 0}, {0, 1}, {20, 20}} {
		n := rep(a, times[0], times[1])
		n.Subs = nil
		wrongEverywhere(t, n)
		n.Subs = []api.Node{a, b}
		wrongEverywhere(t, n)
	}
	for _, times := range [][2]int{{0, 21}, {21, 21}, {21, -1}, {-1, -1}, {-1, 0}, {0, -2}, {1, 0}, {20, 19}, {math.MinInt, -1}, {0, math.MaxInt}, {1 << 32, 1 << 32}} {
		wrongEverywhere(t, rep(a, times[0], times[1]))
		wrongEverywhere(t, rep(nothing, times[0], times[1]))
	}
}

// P12.1: 12 brackets open are right, 13 aren't, though they would have none when they are simple.
func TestWrongBrackets(t *testing.T) {
	for _, w := range []struct {
		wrap func(api.Node) api.Node
		want api.Node
	}{
		{func(n api.Node) api.Node { return rep(n, 1, 1) }, empty},
		{star, star(a)},
		{func(n api.Node) api.Node { return cat(n, a) }, catOf(a, 13)},
		{func(n api.Node) api.Node { return alt(b, n) }, empty},
		{func(n api.Node) api.Node { return alt(cat(a, b), n) }, alt(b, empty)},
	} {
		deep := nested(a, 13, w.wrap)
		by(t, deep, 'a', w.want)
		follow(t, deep, "aaaab")
		wrongEverywhere(t, w.wrap(deep))
		wrongEverywhere(t, nested(deep, 30, w.wrap))
	}
}

// P12.1, P12.2: an expression that is as deep as may be handed in, or that holds itself, isn't right, and each call ends.
func TestEndless(t *testing.T) {
	for _, wrap := range []func(api.Node) api.Node{
		star,
		func(n api.Node) api.Node { return cat(n, a) },
		func(n api.Node) api.Node { return alt(empty, n) },
		func(n api.Node) api.Node { return api.Node{Subs: []api.Node{n}} },
	} {
		n := nested(a, 1<<21, wrap)
		if got, e := derive.By(n, 'a'); e != api.ErrArg || got.Kind != 0 || got.Subs != nil {
			t.Errorf("got %d", e)
		}
		if got, e := derive.Word(cat(a, alt(empty, n)), "aa"); e != api.ErrArg || got.Kind != 0 || got.Subs != nil {
			t.Errorf("got %d", e)
		}
		if ok, e := derive.Match(n, "a"); ok || e != api.ErrArg {
			t.Errorf("got %t, %d", ok, e)
		}
		if to, e := derive.Longest(n, "a", 2); to != 0 || e != api.ErrArg {
			t.Errorf("got %d, %d", to, e)
		}
	}
	for _, kind := range []int{api.Cat, api.Alt, api.Rep} {
		subs := []api.Node{a, {Kind: kind}, b}
		if kind == api.Rep {
			subs = []api.Node{{Kind: kind, Max: -1}}
		}
		own := len(subs) / 2
		subs[own].Subs = subs
		for _, n := range []api.Node{subs[own], star(subs[own])} {
			if got, e := derive.By(n, 'a'); e != api.ErrArg || got.Subs != nil {
				t.Errorf("got %d", e)
			}
			if ok, e := derive.Match(n, ""); ok || e != api.ErrArg {
				t.Errorf("got %t, %d", ok, e)
			}
			if to, e := derive.Longest(n, "", 0); to != 0 || e != api.ErrArg {
				t.Errorf("got %d, %d", to, e)
			}
		}
	}
}

// P12.2: places that there are, at the beginning, in the middle and at the end, and places that there are not.
func TestFrom(t *testing.T) {
	for _, n := range []api.Node{empty, a, nothing, cat(a, b), alt(a, empty), star(a), rep(anyByte, 2, 3), catOf(a, 5000)} {
		for _, s := range []string{"", "a", "aabaa", strings.Repeat("a", 1000)} {
			for _, from := range outside(len(s)) {
				noLongest(t, n, s, from, api.ErrRange)
			}
		}
	}
	const s = "aabaa"
	for from, want := range []int{2, 2, 2, 5, 5, 5} {
		longestOf(t, "a*", s, from, want)
	}
	for from, want := range []int{2, 2, -1, 5, 5, -1} {
		longestOf(t, "a+", s, from, want)
	}
	for from, want := range []int{-1, 4, -1, -1, -1, -1} {
		longestOf(t, "aba", s, from, want)
	}
	for from := range len(s) + 1 {
		longestOf(t, ".*", s, from, 5)
		longestOf(t, "", s, from, from)
		longestOf(t, "b?", s, from, []int{0, 1, 3, 3, 4, 5}[from])
		longestOf(t, "[]", s, from, -1)
	}
}

// P12.1, P12.2: behind the empty text the simple one is left; it matches just if that does.
func TestEmptyText(t *testing.T) {
	for re, want := range map[string]bool{
		"": true, "()()": true, "|": true, "a": false, "[]": false, ".": false, "ab": false, "()a": false, "a|b": false, "a|": true, "|a": true, "a*": true, "a?": true, "a+": false, "a{0}": true, "a{1}": false, "a{0,20}": true, "a{20}": false,
		"[]*": true, "[]?": true, "[]+": false, "[]{0}": true, "[]{3}": false, "()*": true, "()+": true, "(){20}": true, "(){20,}": true, "(a?){20}": true, "(a*)+": true, "(a|){2,3}": true, "(a+)*": true, "(a+)+": false, "a*b*": true, "a*b": false, "a*b*|c": true, "ab|cd|": true, "ab|c*d": false, "ab|(c*|x)d?": true,
	} {
		n := parse(t, re)
		matches(t, n, "", want)
		if want {
			longest(t, n, "", 0, 0)
			longest(t, n, "##", 2, 2)
		} else {
			longest(t, n, "", 0, -1)
			longest(t, n, "##", 2, -1)
		}
	}
	for re, want := range map[string]string{"": "", "()()": "", "(a|b|c)()": "[a-c]", "(a+)*": "a*", "a[]|b": "b", "a{1}": "a", "ab|ab": "ab", "(ab)(cd)": "abcd", "a{0}": "", "a[]": "[]", "((ab)*)*": "(ab)*"} {
		left(t, re, "", want)
	}
}

// P12.1: of Empty nothing is left.
func TestEmpty(t *testing.T) {
	for i := range 256 {
		by(t, empty, byte(i), nothing)
		by(t, cat(empty, empty), byte(i), nothing)
		by(t, rep(empty, 2, 3), byte(i), nothing)
		by(t, rep(a, 0, 0), byte(i), nothing)
	}
	word(t, empty, "abc", nothing)
	matches(t, empty, "a", false)
	longest(t, empty, "aa", 1, 1)
}

// P12.1: of a Class of no bytes, of one, of all but one, of all, by all bytes.
func TestClasses(t *testing.T) {
	t.Parallel()
	for i := range 256 {
		s := string([]byte{byte(i)})
		one := setOf(s)
		n, other := api.Node{Kind: api.Class, Set: one}, api.Node{Kind: api.Class, Set: others(one)}
		for j := range 256 {
			by(t, n, byte(j), map[bool]api.Node{true: empty, false: nothing}[i == j])
			by(t, other, byte(j), map[bool]api.Node{true: empty, false: nothing}[i != j])
			by(t, star(n), byte(j), map[bool]api.Node{true: star(n), false: nothing}[i == j])
			by(t, cat(other, n), byte(j), map[bool]api.Node{true: n, false: nothing}[i != j])
		}
		by(t, anyByte, byte(i), empty)
		by(t, nothing, byte(i), nothing)
		by(t, alt(other, n), byte(i), empty)
		word(t, n, s+s, nothing)
		matches(t, n, s, true)
		matches(t, other, s, false)
		longest(t, star(n), s+s+s, 1, 3)
		longest(t, star(other), s+s, 1, 1)
	}
	high := class("\x80\xa9\xff")
	longest(t, star(high), "\x80\xff\xa9\x7f\x80", 0, 3)
	longest(t, cat(high, high), "é\xa9\xff", 1, 3)
	// A rune that isn't ASCII is its bytes.
	matches(t, anyByte, "é", false)
	matches(t, rep(anyByte, 2, 2), "é", true)
	longest(t, star(anyByte), "\x00é\xff\n", 0, 5)
}

// P12.1: of Cat whose first Sub doesn't match the empty text.
func TestCat(t *testing.T) {
	lefts(t, map[string]string{
		"ab": "b", "abc": "bc", "a(bc)": "bc", "(ab)c": "bc", "[ab]a": "a", "ba": "[]", "bab": "[]", "a()": "", "()a": "", "a()b": "b", "a[]": "[]", "[]a": "[]",
		"ab*": "b*", "aa*": "a*", "a(b|cd)": "b|cd", "a(b|cd)e": "(b|cd)e", "(ab|ac)d": "[bc]d", "(ab|a)c": "(b|)c", "(ab|acd)ef": "(b|cd)ef", "a+b": "a*b", "a{2}b": "ab", "a{2,}b": "a+b", "a{3}b": "a{2}b", "a{2,3}b": "a{1,2}b", "(ab)+c": "b(ab)*c", "(ab){2}c": "babc",
	})
	left(t, "abc", "ab", "c")
	left(t, "abc", "abc", "")
	left(t, "abc", "abca", "[]")
	left(t, "abc", "b", "[]")
	for _, many := range []int{2, 3, 10, 1000} {
		n := catOf(a, many)
		by(t, n, 'a', catOf(a, many-1))
		by(t, n, 'b', nothing)
		word(t, n, strings.Repeat("a", many-1), a)
		word(t, n, strings.Repeat("a", many), empty)
		word(t, n, strings.Repeat("a", many+1), nothing)
		longest(t, n, "b"+strings.Repeat("a", many+9), 1, many+1)
		longest(t, n, strings.Repeat("a", many-1), 0, -1)
	}
}

// P12.1: of Cat whose first Subs match the empty text, all of them, some, none.
func TestCatFromEmpty(t *testing.T) {
	lefts(t, map[string]string{
		"a?b": "b", "b?a": "", "b?ab": "b", "b?c": "[]", "a?a": "a|", "a?a?": "a?|", "b?a?": "", "a?b?": "b?", "a?b?a?": "b?a?|", "b?a?b?": "b?", "a?a?a?": "a?a?|a?|",
		"a*a": "a*a|", "a*b": "a*b", "b*a": "", "b*ac": "c", "a*a*": "a*a*|a*", "a*b*": "a*b*", "b*a*": "a*", "a*b*a": "a*b*a|", "a?a*": "a*", "a?a*b": "a*b", "a?a*a?a*": "a*a?a*|a*",
		"(|a)b": "b", "(|b)(|c)ad": "d", "(|b)(|c)(|d)": "[]", "(|ab)(|ac)(|ad)": "b(|ac)(|ad)|c(|ad)|d", "(|ab)(|ac)d": "b(|ac)d|cd", "(|ab)(|ac)ad": "b(|ac)ad|cad|d", "(|ab)(|ac)dad": "b(|ac)dad|cdad",
		"(a|b?)(ab)*": "(ab)*|b(ab)*", "(a*b*)(ab)": "a*b*ab|b", "b{0,2}(a|ac)*": "(|c)(a|ac)*", "(ab?)*a": "b?(ab?)*a|", "(a?b)?(a|c)d": "b[ac]d|d",
		"[ab]?a?": "a?|", "[ab]?[ac]?[ad]?": "[ac]?[ad]?|[ad]?|",
	})
	left(t, "b?a?c", "bac", "")
	left(t, "a*a", "aaa", "a*a|")
	left(t, "(|ab)(|ac)d", "ac", "d")
}

// P12.1: of Alt of two, and of many, which part of them are alike behind the byte.
func TestAlt(t *testing.T) {
	lefts(t, map[string]string{
		"a|b": "", "ab|b": "b", "b|ab": "b", "ab|ac": "[bc]", "ab|cd": "b", "bc|cd": "[]", "ab|acd": "b|cd", "acd|ab": "cd|b", "ab|cb|ab": "b", "ab|[ac]b": "b", "abc|[ad]bc": "bc", "abc|bc|[ad]bc": "bc", "abc|ad|[ae]bc": "bc|d",
		"a|ab": "|b", "a|": "", "|a": "", "|ab": "b", "a|ab|ac": "|[bc]", "ab|a|ac": "[bc]|", "abc|ab|a|ac": "bc|[bc]|", "a|a*": "|a*", "a*|aa*": "a*", "aa*|a*": "a*", "aaa|a*": "aa|a*", "a(b|cd)|a(ef|g)": "[bg]|cd|ef", "a(b|cd)|a(cd|b)": "b|cd",
		"a(b*|c*)|ac*|ad*": "b*|c*|d*", "[]|a": "", "a|[]": "", "(a|b)|(ab|c)": "|b", "a(b|c)|(ad|ae)": "[b-e]", "ab|ac|ad|ae|af|ag": "[b-g]", "ab|bc|ac|cd|ad": "[b-d]",
	})
	left(t, "if|in|i", "i", "[fn]|")
	left(t, "if|in|i", "in", "")
	left(t, "abc|abd|acd", "ab", "[cd]")
	for _, many := range []int{2, 3, 64, 5000} {
		row, other := make([]api.Node, many), make([]api.Node, many)
		for i := range row {
			row[i] = cat(a, rep(b, i%20, 20), rep(c, i/20%20, 20), rep(d, i/400, 20))
			other[i] = cat(b, rep(b, i%20, 20), rep(c, i/20%20, 20), rep(d, i/400, 20))
		}
		rest := make([]api.Node, many)
		for i := range rest {
			rest[i] = cat(row[i].Subs[1:]...)
		}
		by(t, alt(row...), 'a', alt(rest...))
		by(t, alt(other...), 'a', nothing)
		by(t, alt(slices.Concat(other, row)...), 'a', alt(rest...))
		by(t, alt(append(slices.Clone(other), row[1], row[1], cat(api.Node{Kind: api.Class, Set: setOf("ac")}, rest[1]))...), 'a', rest[1])
	}
}

// P12.1: of Rep of each Min and Max that may be.
func TestRepTimes(t *testing.T) {
	for least := range 21 {
		for most := least - 1; most <= 20; most++ {
			last := most
			if most < least {
				last = -1
			}
			checkTimes(t, least, last)
		}
	}
	lefts(t, map[string]string{
		"a*": "a*", "a+": "a*", "a?": "", "a{0}": "[]", "a{1}": "", "a{2}": "a", "a{3}": "a{2}", "a{0,2}": "a?", "a{1,2}": "a?", "a{2,2}": "a", "a{1,3}": "a{0,2}", "a{2,}": "a+", "a{3,}": "a{2,}", "a{20}": "a{19}", "a{20,}": "a{19,}", "a{0,20}": "a{0,19}", "a{19,20}": "a{18,19}",
		"b*": "[]", "b+": "[]", "b?": "[]", "b{2}": "[]", "(ab)*": "b(ab)*", "(ab)+": "b(ab)*", "(ab)?": "b", "(ab){2}": "bab", "(ab){3}": "b(ab){2}", "(ab){2,3}": "b(ab){1,2}", "(a|b)*": "[ab]*", "(ab|ac)*": "[bc](ab|ac)*", "(a|ab)*": "(|b)(a|ab)*", "(ab|c)*": "b(ab|c)*",
	})
}

// checkTimes: what is left of a Rep from and to so many times.
func checkTimes(t *testing.T, least, most int) {
	t.Helper()
	now := func(n api.Node, least, most int) api.Node {
		switch {
		case most == 0:
			return empty
		case least == 1 && most == 1:
			return n
		}
		return rep(n, least, most)
	}
	next := func(n api.Node) api.Node { return now(n, max(least-1, 0), max(most-1, -1)) }
	want := next(a)
	if most == 0 {
		want = nothing
	}
	by(t, rep(a, least, most), 'a', want)
	by(t, rep(a, least, most), 'b', nothing)
	by(t, cat(rep(a, least, most), b), 'b', map[bool]api.Node{true: empty, false: nothing}[least == 0])
	for _, long := range []int{0, 1, 2, 19, 20, 21, 30} {
		s := strings.Repeat("a", long)
		matches(t, rep(a, least, most), s, least <= long && (most == -1 || long <= most))
		follow(t, rep(a, least, most), s)
	}
	if most == 0 {
		return
	}
	rest := next(cat(a, c))
	want = cat(c, rest)
	switch {
	case rest.Kind == api.Empty:
		want = c
	case rest.Kind == api.Cat:
		want = cat(c, a, c)
	}
	by(t, rep(cat(a, c), least, most), 'a', want)
}

// P12.1: of Rep of what matches the empty text, and of Rep within Rep.
func TestRepOfEmpty(t *testing.T) {
	lefts(t, map[string]string{
		"()*": "[]", "()+": "[]", "(){3}": "[]", "()?": "[]", "[]*": "[]", "[]+": "[]", "[]{2}": "[]", "[]?": "[]", "(a[])*": "[]", "(a[])+": "[]",
		"(a?)*": "a*", "(a?)+": "a*", "(a?){2}": "a?", "(a?){3}": "(a?){2}", "(a?){2,3}": "(a?){1,2}", "(a?)?": "", "(a?){2,}": "(a?)+", "(a?b?)*": "b?(a?b?)*", "(b?a?)*": "(b?a?)*", "(a*b*)*": "a*b*(a*b*)*", "(b*a*){2}": "a*b*a*", "(b*a*){3}": "a*(b*a*){2}", "(|ab)*": "b(|ab)*", "(|ab){2}": "b(|ab)", "(a*|b)+": "a*(a*|b)*", "(a*a){2}": "(a*a|)a*a",
		"(a*)*": "a*", "(a+)*": "a*", "(a+)+": "a*a*", "(a*)+": "a*", "(a{2})*": "a(a{2})*", "(a{2}){2}": "aa{2}", "(a{2}){3}": "a(a{2}){2}", "(a{2,3}){2,3}": "a{1,2}(a{2,3}){1,2}", "(a{0,2})+": "a?a*", "(a{1,2})+": "a?a*", "(a{1,2}){2,}": "a?(a{1,2})+", "(a{3}){0,2}": "a{2}(a{3})?", "((ab)*c)*": "b(ab)*c((ab)*c)*", "((ab)*)*": "b(ab)*", "((ab)+){2}": "b(ab)*(ab)+", "(((a{20}){20}){20}){20}": "a{19}(a{20}){19}((a{20}){20}){19}(((a{20}){20}){20}){19}",
	})
	left(t, "(a{2}){2}", "aa", "a{2}")
	left(t, "(a{2}){2}", "aaaa", "")
	left(t, "(a{2}){2}", "aaaaa", "[]")
	left(t, "(a+)+", "aa", "a*a*|a*")
}

// P12.1: what isn't simple has as much left as its simple one, in the same form.
func TestNotSimple(t *testing.T) {
	for re, simple := range map[string]string{
		"(a|b)": "[ab]", "a|b|c": "[a-c]", "((ab)(cd))e": "abcde", "(a+)*": "a*", "(a*)*": "a*", "(((ab)?)+)*": "(ab)*", "a{1}": "a", "(ab){1}c": "abc", "a[]|ab": "ab", "ab|ab|ac": "ab|ac", "()a()b()": "ab", "(a|(b|(cd|e)))f": "([abe]|cd)f", "a{0}b": "b", "(a{0}|b)c": "(|b)c", "[]*ab": "ab", "(()*|[])ab": "ab", "(ab|[])+c": "(ab)+c", "(a(b(c(d))))*": "(abcd)*",
	} {
		n, m := parse(t, re), parse(t, simple)
		for _, s := range []string{"", "a", "b", "c", "ab", "abc", "abab", "x"} {
			want, e := derive.Word(m, s)
			if e != api.OK {
				t.Fatalf("%q behind %q: got %d", simple, s, e)
			}
			word(t, n, s, want)
			follow(t, n, s)
		}
	}
}

// P12.2: Longest that never matches, that matches at from alone, that goes on past places where it doesn't match.
func TestLongest(t *testing.T) {
	longestOf(t, "ab", "aab", 0, -1)
	longestOf(t, "ab", "aab", 1, 3)
	longestOf(t, "abc", "ab", 0, -1)
	longestOf(t, "a*[]", "aaa", 0, -1)
	longestOf(t, "[]", "aaa", 1, -1)
	longestOf(t, "a+b", "aaaaaa", 2, -1)
	longestOf(t, "a?", "bab", 0, 0)
	longestOf(t, "(ab)*", "aab", 0, 0)
	longestOf(t, "(abc)*", "xabab", 1, 1)
	longestOf(t, "(abc)*", "xabcab", 1, 4)
	longestOf(t, "a|abcd", "abcx", 0, 1)
	longestOf(t, "a|abcd", "abcdx", 0, 4)
	longestOf(t, "a|abcd", "abc", 0, 1)
	longestOf(t, "(a|abcd)*", "aabcdabcaa", 0, 6)
	longestOf(t, "a*b?", "aacb", 0, 2)
	longestOf(t, ".*a", "xxaxaxx", 0, 5)
	longestOf(t, ".*a", "xxaxaxx", 3, 5)
	longestOf(t, ".*a", "xxaxaxx", 5, -1)
	longestOf(t, "(.{5})*", strings.Repeat("x", 99), 2, 97)
	longestOf(t, "a|b+c", "bbbbbb", 0, -1)
}

// growing is little itself; behind a byte a that many nodes are left of it.
func growing(nodes int) api.Node {
	const wide = 50
	tails := 1 + 1 + 2 // the Alt, Empty, and a? alone
	for i := 2; i < wide; i++ {
		tails += 1 + 2*i
	}
	return alt(catOf(maybe(a), wide), cat(a, catOf(c, nodes-tails-1)))
}

// P12.1, P12.2: what is left of exactly 4000 nodes, and of one more, behind the first byte, one in the middle, the last one.
func TestTooGreat(t *testing.T) {
	t.Parallel()
	for _, ahead := range []string{"", "b", "bdbdb"} {
		var row []api.Node
		for i := range len(ahead) {
			row = append(row, class(ahead[i:i+1]))
		}
		before := func(n api.Node) api.Node { return cat(append(slices.Clone(row), n, d)...) }
		if ahead == "" {
			before = func(n api.Node) api.Node { return n }
		}
		most, more := before(growing(4000)), before(growing(4001))
		if ahead != "" {
			most, more = before(growing(3998)), before(growing(3999))
		}
		for _, behind := range []string{"", "a", "cc", "xa", "aad"} {
			s := ahead + "a" + behind
			if far := follow(t, most, s); far != len(s) {
				t.Errorf("%q of most: only behind %d", s, far)
			}
			if far := follow(t, more, s); far != len(ahead) {
				t.Errorf("%q of more: behind %d", s, far)
			}
			refused(t, more, "xy"+s, 2, api.ErrNodes)
		}
		if left, e := derive.Word(most, ahead+"a"); e != api.OK || sizeOf(left) != 4000 {
			t.Errorf("%d nodes are left, %d", sizeOf(left), e)
		}
		follow(t, more, ahead)
		follow(t, more, ahead+"x")
		follow(t, more, ahead+"xa")
	}
}

// P12.1, P12.2: a row of Subs, of which one goes by each byte.
func TestTooGreatRow(t *testing.T) {
	t.Parallel()
	row := catOf(a, 4000)
	by(t, row, 'a', catOf(a, 3999))
	word(t, row, "a", catOf(a, 3999))
	word(t, row, "aa", catOf(a, 3998))
	matches(t, row, strings.Repeat("a", 4000), true)
	longest(t, row, "b"+strings.Repeat("a", 4005), 1, 4001)
	for _, many := range []int{4001, 1 << 13} {
		row := catOf(a, many)
		by(t, row, 'a', catOf(a, many-1))
		by(t, row, 'b', nothing)
		// Without a byte nothing is too great.
		word(t, row, "", row)
		matches(t, row, "", false)
		longest(t, row, "aa", 2, -1)
		longest(t, alt(empty, row), "aa", 2, 2)
		word(t, row, "b", nothing)
		word(t, row, "ba", nothing)
		matches(t, row, "ba", false)
		longest(t, row, "ba", 0, -1)
		refused(t, row, "a", 0, api.ErrNodes)
		refused(t, row, "baa", 1, api.ErrNodes)
		refused(t, cat(row, b), strings.Repeat("a", many), 0, api.ErrNodes)
		refused(t, star(row), "a", 0, api.ErrNodes)
	}
}

// P12.2: a match that was met tells nothing, if it becomes too great further on; where nothing is left ahead of that, it doesn't.
func TestTooGreatBehindMatch(t *testing.T) {
	n := alt(empty, cat(b, alt(empty, cat(c, alt(empty, growing(4001))))))
	longest(t, n, "", 0, 0)
	longest(t, n, "x", 0, 0)
	longest(t, n, "a", 0, 0)
	longest(t, n, "b", 0, 1)
	longest(t, n, "bx", 0, 1)
	longest(t, n, "bc", 0, 2)
	longest(t, n, "bcx", 0, 2)
	longest(t, n, "bcxa", 0, 2)
	refused(t, n, "bca", 0, api.ErrNodes)
	refused(t, n, "bcaccc", 0, api.ErrNodes)
	refused(t, n, "bbcaccc", 1, api.ErrNodes)
	longest(t, n, "bca", 1, 1)
	longest(t, n, "bca", 3, 3)
	longest(t, star(growing(4001)), "xa", 0, 0)
	noLongest(t, star(growing(4001)), "xa", 1, api.ErrNodes)
}

// P12.1: whatever has a part that is too great behind a byte is too great, though it is little ahead of it.
func TestTooGreatParts(t *testing.T) {
	t.Parallel()
	row := catOf(maybe(a), 100)
	for _, n := range []api.Node{row, star(row), rep(row, 1, -1), rep(row, 0, 1), rep(row, 2, 3), cat(row, b), cat(maybe(b), row), cat(star(row), b), alt(row, cat(b, c)), alt(cat(b, c), star(row)), star(alt(cat(b, c), row)), cat(alt(row, cat(b, c)), d), star(star(cat(row, b))), rep(cat(rep(cat(row, b), 2, 3), c), 4, 5)} {
		refused(t, n, "a", 0, api.ErrNodes)
		refused(t, cat(b, n), "ba", 0, api.ErrNodes)
		refused(t, cat(b, c, n), "bcab", 0, api.ErrNodes)
		follow(t, n, "ba")
		by(t, n, 'a', modelLeft(simplest(t, n), 'a'))
	}
}

// P12.1: what is left behind a byte alone is never too great.
func TestByOfMany(t *testing.T) {
	by(t, growing(4001), 'a', modelLeft(growing(4001), 'a'))
	by(t, growing(9000), 'a', modelLeft(growing(9000), 'a'))
	const many = 300
	var tails []api.Node
	for i := range many {
		tails = append(tails, catOf(maybe(a), many-1-i))
	}
	by(t, catOf(maybe(a), many), 'a', alt(tails...))
	refused(t, catOf(maybe(a), many), "a", 0, api.ErrNodes)
	by(t, cat(catOf(maybe(b), many), d), 'd', empty)
	by(t, cat(catOf(maybe(b), many), d), 'a', nothing)
}

// P12.1: parts that are too great all together aren't, if they are the same, or one Class.
func TestSameParts(t *testing.T) {
	t.Parallel()
	rest := append(rowOf(b, 1499), alt(cat(a, b), cat(c, d)))
	var many, classes []api.Node
	for i := range 30 {
		one := api.Node{Kind: api.Class, Set: setOf(string([]byte{'a', 'c' + byte(i)}))}
		many = append(many, cat(append([]api.Node{one}, rest...)...))
	}
	for i := range 5000 {
		one := api.Node{Kind: api.Class, Set: api.Set{1 << (i % 64), 0, 1 << (i / 64), 1}}
		classes = append(classes, cat(a, one))
	}
	by(t, alt(many...), 'a', cat(rest...))
	word(t, alt(many...), "a", cat(rest...))
	word(t, alt(many...), "ab", cat(rest[1:]...))
	word(t, cat(alt(many...), d), "a", cat(append(slices.Clone(rest), d)...))
	other := cat(append([]api.Node{a, c}, rest...)...)
	word(t, alt(append(slices.Clone(many), other)...), "a", alt(cat(rest...), cat(append([]api.Node{c}, rest...)...)))
	refused(t, alt(append(slices.Clone(many), other, cat(a, d, other))...), "a", 0, api.ErrNodes)
	refused(t, alt(append([]api.Node{cat(a, d, other), other}, many...)...), "a", 0, api.ErrNodes)
	refused(t, cat(alt(append([]api.Node{cat(a, d, other), other}, many...)...), d), "a", 0, api.ErrNodes)
	got, e := derive.Word(alt(classes...), "a")
	if e != api.OK || got.Kind != api.Class || !equal(got, modelLeft(alt(classes...), 'a')) {
		t.Errorf("got %s, %d", name(got), e)
	}
}

// P12.1: with as many brackets as may be, what is left is gone on with as it is.
func TestManyBrackets(t *testing.T) {
	t.Parallel()
	for i, wrap := range []func(api.Node) api.Node{
		func(n api.Node) api.Node { return rep(cat(n, maybe(a)), 0, 3) },
		func(n api.Node) api.Node { return star(cat(maybe(b), n)) },
		func(n api.Node) api.Node { return alt(empty, cat(a, n), cat(b, n, c)) },
		func(n api.Node) api.Node { return rep(alt(cat(a, a), n), 2, 3) },
		func(n api.Node) api.Node { return cat(alt(n, cat(a, b)), b) },
	} {
		n := cat(star(a), star(b), star(cat(a, c)))
		for show.Right(wrap(n)) {
			n = wrap(n)
		}
		for _, s := range []string{"aaa", "abab", "aacbcbc", "abbbbbbbbbbb"} {
			if far := follow(t, n, s); far == 0 && i != 2 {
				t.Errorf("%s behind %q: too great at once", name(n), s)
			}
		}
	}
}

// P12.2: long texts, with few states, with many, with ever others, with great ones.
func TestLongTexts(t *testing.T) {
	const long = 1 << 20
	s := strings.Repeat("a", long)
	longestOf(t, "a*", "b"+s+"b", 1, long+1)
	longestOf(t, "a*b", s, 0, -1)
	matches(t, parse(t, "(a|b)*abb"), s+"bb", true)
	matches(t, parse(t, "(a{2}){3,}"), s, long%2 == 0)
	matches(t, parse(t, "((a{20}){20}){20}"), s[:8000], true)
	matches(t, parse(t, "((a{20}){20}){20}"), s[:7999], false)
	matches(t, parse(t, "(((a{2,3}){3}){3,}){2}b"), s[:20000]+"b", true)
	var words []api.Node
	for i := range 300 {
		words = append(words, cat(class(string(rune('a'+i%20))), class(string(rune('a'+i/20))), star(class("xyz"))))
	}
	longest(t, star(alt(words...)), strings.Repeat("abxybczz", long/8), 0, long)
	longest(t, star(alt(words...)), strings.Repeat("abxybczz", long/8)+"aq", 0, long)
}

// P12.2: expressions of many Subs end soon, too great or not.
func TestManySubs(t *testing.T) {
	t.Parallel()
	const many = 1 << 18
	row := catOf(maybe(a), many)
	refused(t, row, "a", 0, api.ErrNodes)
	longest(t, row, "b", 0, 0)
	matches(t, row, "b", false)
	matches(t, cat(row, b), "b", true)
	matches(t, alt(rowOf(cat(a, b), many)...), "ab", true)
	matches(t, cat(append(rowOf(maybe(b), many), a)...), "a", true)
	refused(t, cat(append(rowOf(maybe(b), many), rowOf(maybe(a), 1000)...)...), "a", 0, api.ErrNodes)
	refused(t, star(alt(star(cat(row, c)), b)), "ba", 0, api.ErrNodes)
}
