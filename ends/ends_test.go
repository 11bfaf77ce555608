package ends_test

import (
	"fmt"
	"math"
	"slices"
	"strings"
	"testing"

	"sieve/api"
	"sieve/ends"
	"sieve/regex"
	"sieve/show"
)

func setOf(bytes string) (a api.Set) {
	for i := range len(bytes) {
		a[bytes[i]/64] |= 1 << (bytes[i] % 64)
	}
	return a
}

func others(a api.Set) api.Set {
	return api.Set{^a[0], ^a[1], ^a[2], ^a[3]}
}

func class(bytes string) api.Node {
	return api.Node{Kind: api.Class, Set: setOf(bytes)}
}

func cat(list ...api.Node) api.Node {
	return api.Node{Kind: api.Cat, Subs: list}
}

func alt(list ...api.Node) api.Node {
	return api.Node{Kind: api.Alt, Subs: list}
}

func rep(n api.Node, least, most int) api.Node {
	return api.Node{Kind: api.Rep, Min: least, Max: most, Subs: []api.Node{n}}
}

func star(n api.Node) api.Node { return rep(n, 0, -1) }

// nested: the expression, wrapped as often as is told.
func nested(n api.Node, many int, wrap func(api.Node) api.Node) api.Node {
	for range many {
		n = wrap(n)
	}
	return n
}

// rowOf: the expression, so often.
func rowOf(n api.Node, many int) []api.Node {
	return slices.Repeat([]api.Node{n}, many)
}

var (
	empty, nothing = api.Node{Kind: api.Empty}, class("")
	a, b, c        = class("a"), class("b"), class("c")
	all            = others(api.Set{})
	anyByte        = api.Node{Kind: api.Class, Set: all}
	odd            = api.Node{Kind: 9, Min: 3, Subs: []api.Node{a}} // of no kind
)

// name is the expression's text, to tell of it.
func name(n api.Node) string {
	if s, e := show.Text(n); e == api.OK {
		return `"` + s + `"`
	}
	return fmt.Sprintf("%.99s", fmt.Sprintf("what isn't right, %v", n))
}

// parse is the expression of a text of the grammar.
func parse(t *testing.T, s string) api.Node {
	t.Helper()
	n, at, e := regex.Parse(s)
	if e != api.OK {
		t.Fatalf("%q is wrong at %d", s, at)
	}
	return n
}

// upTo has the numbers from least to most, each so much more than the one ahead.
func upTo(least, most, more int) (list []int) {
	for i := least; i <= most; i += more {
		list = append(list, i)
	}
	return list
}

// first has the first ones of a list, to tell of it.
func first(list []int) string {
	if len(list) > 30 {
		return fmt.Sprintf("%d of %d", list[:30], len(list))
	}
	return fmt.Sprint(list)
}

// matches: Match tells so of the text.
func matches(t *testing.T, n api.Node, s string, want bool) {
	t.Helper()
	if got := ends.Match(n, s); got != want {
		t.Errorf("%s of %q: got match %t", name(n), s, got)
	}
}

// best: Best tells so of the rules.
func best(t *testing.T, list []api.Rule, s string, from, rule, to int) {
	t.Helper()
	if gotRule, gotTo, ok := ends.Best(list, s, from); gotRule != rule || gotTo != to || ok != (rule != -1) {
		t.Errorf("%.40q from %d: got best %d, %d, %t, want %d, %d", s, from, gotRule, gotTo, ok, rule, to)
	}
}

// endsAre: the expression's texts that begin at the place end at these alone, whichever function is asked.
func endsAre(t *testing.T, n api.Node, s string, from int, want []int) {
	t.Helper()
	if got, e := ends.All(n, s, from); e != api.OK || !slices.Equal(got, want) {
		t.Errorf("%s of %.40q from %d: got %s, %d, want %s", name(n), s, from, first(got), e, first(want))
	}
	last := -1
	if len(want) > 0 {
		last = want[len(want)-1]
	}
	if got := ends.Longest(n, s, from); got != last {
		t.Errorf("%s of %.40q from %d: got longest %d, want %d", name(n), s, from, got, last)
	}
	matches(t, n, s[from:], last == len(s))
	one := []api.Rule{{Re: n}}
	if last > from {
		best(t, one, s, from, 0, last)
	} else {
		best(t, one, s, from, -1, -1)
	}
}

// endsOf: so it is of an expression's text.
func endsOf(t *testing.T, re, s string, from int, want ...int) {
	t.Helper()
	endsAre(t, parse(t, re), s, from, want)
}

// refused: All answers that error, and the others nothing.
func refused(t *testing.T, n api.Node, s string, from int, want api.Errno) {
	t.Helper()
	if got, e := ends.All(n, s, from); e != want || len(got) > 0 {
		t.Errorf("%q from %d: got %d, %d, want %d", s, from, got, e, want)
	}
	if got := ends.Longest(n, s, from); got != -1 {
		t.Errorf("%q from %d: got longest %d", s, from, got)
	}
	best(t, []api.Rule{{Re: n}}, s, from, -1, -1)
}

// outside has places that a text of so many bytes hasn't.
func outside(long int) []int {
	return []int{-1, -2, -3, -64, -100, math.MinInt, long + 1, long + 2, long + 64, math.MaxInt, math.MaxInt - 1}
}

// wrong: each function answers what it does of what isn't right, from any place.
func wrong(t *testing.T, n api.Node) {
	t.Helper()
	for _, s := range []string{"", "a", "aab"} {
		matches(t, n, s, false)
		for _, from := range append(upTo(0, len(s), 1), outside(len(s))...) {
			refused(t, n, s, from, api.ErrArg)
		}
	}
}

// wrongEverywhere: so it is of the expression, and of all that have it, at any place and depth, whatever they would match but for it.
func wrongEverywhere(t *testing.T, n api.Node) {
	t.Helper()
	for _, m := range []api.Node{n, cat(n, a), cat(a, n), cat(nothing, n), cat(n, nothing), cat(empty, n), alt(n, a), alt(a, n), alt(empty, n), alt(n, empty, b), rep(n, 1, 2), rep(n, 0, 0), star(n)} {
		wrong(t, m)
		for _, more := range []api.Node{cat(m, b), cat(nothing, b, m), alt(star(a), m), star(m), rep(m, 0, 0), cat(a, alt(b, star(cat(m, a)))), alt(cat(rep(m, 2, 2), b), c)} {
			wrong(t, more)
		}
	}
}

func TestDocExamples(t *testing.T) {
	endsOf(t, "a*|ab", "aab", 0, 0, 1, 2)
	endsOf(t, "a*|ab", "aab", 1, 1, 2, 3)
}

// P11.1: what isn't right by its kind, or by a field.
func TestWrongFields(t *testing.T) {
	for _, kind := range []int{0, -1, 6, 1<<32 + api.Class, math.MaxInt, math.MinInt} {
		for _, n := range []api.Node{empty, a, cat(a, b), alt(a, empty), star(a)} {
			n.Kind = kind
			wrongEverywhere(t, n)
		}
	}
	for _, n := range []api.Node{empty, a, nothing, cat(a, b), alt(a, b)} {
		for _, times := range [][2]int{{1, 0}, {0, 1}, {0, -1}, {math.MinInt, 0}, {0, math.MaxInt}} {
			n.Min, n.Max = times[0], times[1]
			wrongEverywhere(t, n)
		}
	}
	for _, n := range []api.Node{empty, cat(a, b), alt(a, b), star(a), rep(a, 0, 0)} {
		for _, set := range []api.Set{setOf("a"), setOf("\xff"), all} {
			n.Set = set
			wrongEverywhere(t, n)
		}
	}
}

// P11.1: what isn't right by its Subs, or by how often they may be there.
func TestWrongSubs(t *testing.T) {
	for _, n := range []api.Node{empty, a, nothing} {
		n.Subs = []api.Node{a}
		wrongEverywhere(t, n)
	}
	for _, kind := range []int{api.Cat, api.Alt} {
		wrongEverywhere(t, api.Node{Kind: kind})
		wrongEverywhere(t, api.Node{Kind: kind, Subs: []api.Node{}})
		for _, n := range []api.Node{a, empty, nothing, star(a), cat(a, b)} {
			wrongEverywhere(t, api.Node{Kind: kind, Subs: []api.Node{n}})
		}
	}
	for _, times := range [][2]int{{0, -1}, {1, -1}, {0, 0}, {0, 1}, {20, 20}} {
		n := rep(a, times[0], times[1])
		n.Subs = nil
		wrongEverywhere(t, n)
		n.Subs = []api.Node{a, b}
		wrongEverywhere(t, n)
	}
	for _, times := range [][2]int{{0, 21}, {21, 21}, {21, -1}, {-1, -1}, {-1, 0}, {0, -2}, {1, 0}, {20, 19}, {math.MinInt, -1}, {0, math.MaxInt}, {0, math.MinInt}, {1 << 32, 1 << 32}} {
		wrongEverywhere(t, rep(a, times[0], times[1]))
		wrongEverywhere(t, rep(nothing, times[0], times[1]))
	}
}

// P11.1: 12 brackets open are right, 13 aren't.
func TestWrongBrackets(t *testing.T) {
	s := strings.Repeat("a", 20)
	for _, w := range []struct {
		wrap func(api.Node) api.Node
		want []int
	}{
		{func(n api.Node) api.Node { return rep(n, 1, 1) }, []int{4}},
		{func(n api.Node) api.Node { return cat(n, a) }, []int{17}},
		{func(n api.Node) api.Node { return alt(cat(a, a), n) }, []int{4, 5}},
		{star, upTo(3, 20, 1)},
	} {
		deep := nested(a, 13, w.wrap)
		endsAre(t, deep, s, 3, w.want)
		wrongEverywhere(t, w.wrap(deep))
		wrongEverywhere(t, nested(deep, 30, w.wrap))
	}
}

// P11.1, P11.2: an expression that is as deep as may be handed in, or that holds itself, isn't right, and each call ends.
func TestEndless(t *testing.T) {
	for _, wrap := range []func(api.Node) api.Node{
		star,
		func(n api.Node) api.Node { return cat(n, a) },
		func(n api.Node) api.Node { return alt(empty, n) },
		func(n api.Node) api.Node { return api.Node{Subs: []api.Node{n}} },
	} {
		n := nested(a, 1<<21, wrap)
		wrong(t, n)
		wrong(t, cat(a, alt(empty, n)))
	}
	for _, kind := range []int{api.Cat, api.Alt} {
		subs := []api.Node{a, {Kind: kind}, b}
		subs[1].Subs = subs
		wrong(t, subs[1])
	}
	subs := []api.Node{{Kind: api.Rep, Max: -1}}
	subs[0].Subs = subs
	wrong(t, subs[0])
}

// P11.1: places that there are, at the beginning, in the middle and at the end, and places that there are not.
func TestFrom(t *testing.T) {
	s := "aabaa"
	for _, n := range []api.Node{empty, a, nothing, cat(a, b), alt(a, empty), star(a), rep(anyByte, 2, 3)} {
		for _, s := range []string{"", "a", s, strings.Repeat("a", 64), strings.Repeat("a", 1000)} {
			for _, from := range outside(len(s)) {
				refused(t, n, s, from, api.ErrRange)
			}
			if got, e := ends.All(n, s, len(s)); e != api.OK || len(got) > 1 || len(got) == 1 && got[0] != len(s) {
				t.Errorf("%s of %q: got %d, %d from its end", name(n), s, got, e)
			}
		}
	}
	endsOf(t, "a*", s, 0, 0, 1, 2)
	endsOf(t, "a*", s, 1, 1, 2)
	endsOf(t, "a*", s, 2, 2)
	endsOf(t, "a*", s, 3, 3, 4, 5)
	endsOf(t, "a*", s, 4, 4, 5)
	endsOf(t, "a*", s, 5, 5)
	endsOf(t, "a+", s, 2)
	endsOf(t, "a+", s, 5)
	endsOf(t, ".*", s, 1, 1, 2, 3, 4, 5)
	endsOf(t, ".*", s, 5, 5)
	endsOf(t, ".", s, 4, 5)
	endsOf(t, ".", s, 5)
	endsOf(t, "b", s, 2, 3)
	endsOf(t, "", s, 0, 0)
	endsOf(t, "", s, 3, 3)
	endsOf(t, "", s, 5, 5)
}

// P11.1: of the empty text.
func TestEmptyText(t *testing.T) {
	for re, want := range map[string]bool{
		"": true, "()()": true, "|": true, "a": false, "[]": false, ".": false, "ab": false, "()a": false, "a|b": false, "a|": true, "|a": true, "a*": true, "a?": true, "a+": false, "a{0}": true, "a{1}": false, "a{0,20}": true, "a{20}": false,
		"[]*": true, "[]?": true, "[]+": false, "[]{0}": true, "[]{3}": false, "()*": true, "()+": true, "(){20}": true, "(){20,}": true, "(a?){20}": true, "(a*)+": true, "(a|){2,3}": true, "(a+)*": true, "(a+)+": false, "a*b*": true, "a*b": false, "a*b*|c": true,
	} {
		if want {
			endsOf(t, re, "", 0, 0)
			endsOf(t, re, "xyz", 1, 1)
			endsOf(t, re, "xyz", 3, 3)
		} else {
			endsOf(t, re, "", 0)
			endsOf(t, re, "xyz", 3)
		}
	}
}

// P11.1: a Class of no bytes, of one, of some, of all, of bytes above 127, by all bytes.
func TestClasses(t *testing.T) {
	for i := range 256 {
		s := string([]byte{byte(i)})
		one := setOf(s)
		n, other := api.Node{Kind: api.Class, Set: one}, api.Node{Kind: api.Class, Set: others(one)}
		endsAre(t, n, s, 0, []int{1})
		endsAre(t, n, s+s, 1, []int{2})
		endsAre(t, other, s, 0, nil)
		endsAre(t, anyByte, s, 0, []int{1})
		endsAre(t, nothing, s, 0, nil)
		endsAre(t, alt(other, n), s, 0, []int{1})
		endsAre(t, cat(n, other), s+s, 0, nil)
		endsAre(t, cat(other, n), s+s, 0, nil)
		endsAre(t, cat(n, n), s+s, 0, []int{2})
		endsAre(t, star(n), s+s+s, 0, []int{0, 1, 2, 3})
		endsAre(t, star(other), s+s, 0, []int{0})
		for j := range 256 {
			matches(t, n, string([]byte{byte(j)}), i == j)
			matches(t, other, string([]byte{byte(j)}), i != j)
		}
	}
	high := class("\x80\xa9\xff")
	endsAre(t, star(high), "\x80\xff\xa9\x7f\x80", 0, []int{0, 1, 2, 3})
	endsAre(t, star(high), "\x81\x80", 0, []int{0})
	endsAre(t, cat(high, high), "é\xa9\xff", 1, []int{3})
	// A rune that isn't ASCII is its bytes.
	endsAre(t, anyByte, "é", 0, []int{1})
	endsAre(t, rep(anyByte, 2, 2), "é", 0, []int{2})
	endsAre(t, star(anyByte), "\x00é\xff\n", 0, upTo(0, 5, 1))
	endsAre(t, star(nothing), "ab", 1, []int{1})
}

// P11.1: Cat of two, and of many.
func TestCat(t *testing.T) {
	endsOf(t, "ab", "ab", 0, 2)
	endsOf(t, "ab", "abab", 2, 4)
	endsOf(t, "ab", "aab", 0)
	endsOf(t, "ab", "aab", 1, 3)
	endsOf(t, "ab", "a", 0)
	endsOf(t, "ab", "ba", 0)
	endsOf(t, "a()", "ab", 0, 1)
	endsOf(t, "()a", "ab", 0, 1)
	endsOf(t, "a[]", "ab", 0)
	endsOf(t, "[]a", "ab", 0)
	endsOf(t, "a*[]", "aaa", 0)
	endsOf(t, "a*a", "aaa", 0, 1, 2, 3)
	endsOf(t, "a*aa*", "aaa", 0, 1, 2, 3)
	endsOf(t, "a*a*", "aab", 0, 0, 1, 2)
	endsOf(t, "a*b*", "aabba", 0, 0, 1, 2, 3, 4)
	endsOf(t, "a*b*", "aabba", 2, 2, 3, 4)
	endsOf(t, "a*ab", "aaab", 0, 4)
	endsOf(t, "(a|ab)(c|bcd)", "abcd", 0, 3, 4)
	endsOf(t, "(a|ab)(c|bcd)d?", "abcd", 0, 3, 4)
	endsOf(t, "a(b(c(de)))", "abcde", 0, 5)
	endsOf(t, "((((ab)c)d)e)", "abcde", 0, 5)
	endsOf(t, ".*a.*", "xxaxax", 0, 3, 4, 5, 6)
	for _, many := range []int{2, 3, 10, 63, 64, 65, 5000} {
		s := strings.Repeat("a", many)
		endsAre(t, cat(rowOf(a, many)...), s+"aa", 1, []int{many + 1})
		endsAre(t, cat(rowOf(a, many)...), s[1:], 0, nil)
		endsAre(t, cat(rowOf(empty, many)...), s, 1, []int{1})
		endsAre(t, cat(rowOf(alt(a, empty), many)...), s+"aa", 1, upTo(1, many+1, 1))
		endsAre(t, cat(append(rowOf(a, many), b)...), s+"b", 0, []int{many + 1})
		endsAre(t, cat(append(rowOf(a, many), nothing)...), s+"b", 0, nil)
	}
}

// P11.1: Alt of two, and of many, whose choices end at other places, or at the same ones: each place is told once.
func TestAlt(t *testing.T) {
	endsOf(t, "a|b", "ab", 0, 1)
	endsOf(t, "a|b", "ab", 1, 2)
	endsOf(t, "a|b", "c", 0)
	endsOf(t, "a|a", "aa", 0, 1)
	endsOf(t, "ab|a", "ab", 0, 1, 2)
	endsOf(t, "a|ab", "ab", 0, 1, 2)
	endsOf(t, "abc||a|ab", "abcd", 0, 0, 1, 2, 3)
	endsOf(t, "ab|[a-c]b|a.|.*", "abc", 0, 0, 1, 2, 3)
	endsOf(t, "ab|[a-c]b|a.", "abc", 0, 2)
	endsOf(t, "|", "ab", 1, 1)
	endsOf(t, "[]|a", "a", 0, 1)
	endsOf(t, "a|[]", "a", 0, 1)
	endsOf(t, "[]|[]", "a", 0)
	endsOf(t, "a*|b*", "aab", 0, 0, 1, 2)
	endsOf(t, "(a|b)(a|b)|a", "ab", 0, 1, 2)
	endsOf(t, "a|(b|(c|(d|e)))", "e", 0, 1)
	// The second choice's ends are words ahead of the first one's.
	endsOf(t, "a{20}(a{20}){9}|a", strings.Repeat("a", 300), 7, 8, 207)
	endsOf(t, "a|a{20}(a{20}){9}", strings.Repeat("a", 300), 7, 8, 207)
	for _, many := range []int{2, 3, 64, 5000} {
		row := rowOf(a, many)
		endsAre(t, alt(row...), "xaa", 1, []int{2})
		row[many-1] = cat(a, a)
		endsAre(t, alt(row...), "xaa", 1, []int{2, 3})
		row[0] = b
		endsAre(t, alt(row[:many:many]...), "xb", 1, []int{2})
		for i := range row {
			row[i] = cat(rowOf(a, 2+i%100)...)
		}
		endsAre(t, alt(row...), strings.Repeat("a", 200), 50, upTo(52, 51+min(many, 100), 1))
	}
}

// P11.1: Rep of each Min and Max that may be.
func TestRepTimes(t *testing.T) {
	for least := range 21 {
		for most := least - 1; most <= 20; most++ {
			last := most
			if most < least {
				most, last = -1, math.MaxInt
			}
			for long := range 50 {
				s := "b" + strings.Repeat("a", long) + "b"
				endsAre(t, rep(a, least, most), s, 1, upTo(least+1, min(last, long)+1, 1))
				if long%7 > 2 {
					continue
				}
				endsAre(t, rep(cat(a, a), least, most), s, 1, upTo(2*least+1, min(last, long/2)*2+1, 2))
				endsAre(t, rep(alt(a, cat(a, a)), least, most), s, 1, upTo(least+1, min(last, long)+1+max(0, min(last, long-last)), 1))
				endsAre(t, rep(alt(a, empty), least, most), s, 1, upTo(1, min(last, long)+1, 1))
				endsAre(t, cat(rep(a, least, most), b), s, 1, map[bool][]int{true: {long + 2}}[least <= long && long <= last])
			}
			if most == -1 {
				most = least - 1
			}
		}
	}
}

// P11.1: Rep of what matches no text: none at all, if it must be there, else the empty text.
func TestRepOfNothing(t *testing.T) {
	for _, n := range []api.Node{nothing, cat(nothing, a), cat(a, nothing), alt(nothing, nothing), rep(nothing, 1, 1), cat(star(a), nothing)} {
		endsAre(t, n, "aa", 0, nil)
		for most := -1; most <= 20; most++ {
			endsAre(t, rep(n, 0, most), "aa", 1, []int{1})
			endsAre(t, cat(rep(n, 0, most), a), "aa", 1, []int{2})
			endsAre(t, alt(rep(n, 0, most), a), "aa", 0, []int{0, 1})
		}
		for least := 1; least <= 20; least++ {
			for _, most := range []int{-1, least, 20} {
				endsAre(t, rep(n, least, most), "aa", 1, nil)
				endsAre(t, alt(rep(n, least, most), a), "aa", 1, []int{2})
			}
		}
	}
}

// P11.1: Rep of what matches the empty text, by itself or among others: however often it must be there, it may be there for nothing.
func TestRepOfEmptyText(t *testing.T) {
	s := "xaabaaab"
	for _, times := range [][2]int{{0, -1}, {1, -1}, {2, -1}, {20, -1}, {0, 0}, {0, 1}, {1, 1}, {2, 2}, {0, 20}, {1, 20}, {19, 20}, {20, 20}} {
		least, most := times[0], times[1]
		for _, n := range []api.Node{empty, cat(empty, empty), alt(empty, empty), rep(a, 0, 0), star(nothing), star(empty), rep(empty, 3, -1), rep(empty, 20, 20), alt(nothing, empty)} {
			endsAre(t, rep(n, least, most), s, 1, []int{1})
			endsAre(t, rep(n, least, most), s, len(s), []int{len(s)})
			endsAre(t, cat(rep(n, least, most), a), s, 1, []int{2})
		}
		far := func(once int) []int {
			if most >= 0 {
				return upTo(1, min(3, 1+most*once), 1)
			}
			return upTo(1, 3, 1)
		}
		endsAre(t, rep(alt(a, empty), least, most), s, 1, far(1))
		endsAre(t, rep(alt(empty, a), least, most), s, 1, far(1))
		endsAre(t, rep(rep(a, 0, 1), least, most), s, 1, far(1))
		endsAre(t, rep(rep(a, 0, 2), least, most), s, 1, far(2))
		endsAre(t, rep(star(a), least, most), s, 1, far(20))
		endsAre(t, rep(rep(star(a), 2, 3), least, most), s, 1, far(20))
		endsAre(t, rep(cat(star(a), rep(a, 0, 1)), least, most), s, 1, far(20))
	}
	endsOf(t, "(a*b?){0}", s, 1, 1)
	endsOf(t, "(a*b?){1}", s, 1, 1, 2, 3, 4)
	endsOf(t, "(a*b?){2}", s, 1, upTo(1, 8, 1)...)
	endsOf(t, "(a?b?){3}", s, 1, 1, 2, 3, 4, 5)
	endsOf(t, "(a?b?){4}", s, 1, 1, 2, 3, 4, 5, 6)
	endsOf(t, "(a?b?)*", s, 1, upTo(1, 8, 1)...)
	endsOf(t, "(a|)+(b|)", s, 1, 1, 2, 3, 4)
}

// P11.1: Rep within Rep, and several kinds within one another.
func TestWithinOneAnother(t *testing.T) {
	s := strings.Repeat("a", 70)
	endsOf(t, "(a{2,3}){2}", s, 0, 4, 5, 6)
	endsOf(t, "(a{2,3}){2}", s, 60, 64, 65, 66)
	endsOf(t, "(a{2,3}){0,2}", s, 0, 0, 2, 3, 4, 5, 6)
	endsOf(t, "(a{2,3})?", s, 0, 0, 2, 3)
	endsOf(t, "(a{5})*", s, 0, upTo(0, 70, 5)...)
	endsOf(t, "(a{5})+", s, 1, upTo(6, 66, 5)...)
	endsOf(t, "(a{5}){3,}", s, 1, upTo(16, 66, 5)...)
	endsOf(t, "(a{3}|a{5})*", s[:12], 0, 0, 3, 5, 6, 8, 9, 10, 11, 12)
	endsOf(t, "(a{20}){3}", s, 5, 65)
	endsOf(t, "((a{2}){2}){2,3}", s, 60, 68)
	endsOf(t, "((a+){2}){2}", s, 64, 68, 69, 70)
	endsOf(t, "(a*)*", s, 66, 66, 67, 68, 69, 70)
	endsOf(t, "(a+)+", s, 66, 67, 68, 69, 70)
	endsOf(t, "((a{4,}){2,}){2,}", s, 0, upTo(16, 70, 1)...)
	endsOf(t, "(a{7}(a{3})?)*", s[:25], 0, 0, 7, 10, 14, 17, 20, 21, 24)
	s = "ab;abab;b"
	endsOf(t, "((ab)*;)*", s, 0, 0, 3, 8)
	endsOf(t, "((ab)*;?)*", s, 0, 0, 2, 3, 5, 7, 8)
	endsOf(t, "((ab)+;){2}", s, 0, 8)
	endsOf(t, "((ab)+;){2}b|ab(;|;a)", s, 0, 3, 4, 9)
	endsOf(t, "(ab|;(a|ab)+)*", s, 0, 0, 2, 4, 5, 6, 7)
	endsOf(t, "(.b|;)*", s, 0, 0, 2, 3, 5, 7, 8, 9)
	endsOf(t, "(.b|;)*", s, 1, 1)
	endsOf(t, "(.|;)*b", s, 1, 2, 5, 7, 9)
	endsOf(t, "(a|b)*abb", "abababbabb", 0, 7, 10)
	endsOf(t, "/\\*([^\\*]|\\*+[^\\*/])*\\*+/", "/**a*/ /*b*/", 0, 6)
	endsOf(t, "(a*)*b|(a|aa)+c", "aaaad", 0)
	endsOf(t, "(a*)*b|(a|aa)+c", "aaaac", 0, 5)
}

// P11.1: ends that are none, one, some, all, in a text of many words, rising, each once.
func TestNoneOneAll(t *testing.T) {
	for _, long := range []int{1, 62, 63, 64, 65, 127, 128, 129, 1000} {
		s := strings.Repeat("ab", long)[:long]
		for _, from := range []int{0, 1, long / 2, long - 1, long} {
			endsOf(t, "[]", s, from)
			endsOf(t, ".*[^ab]", s, from)
			endsOf(t, "", s, from, from)
			endsOf(t, ".*", s, from, upTo(from, long, 1)...)
			endsOf(t, ".+", s, from, upTo(from+1, long, 1)...)
			endsOf(t, "(..)*", s, from, upTo(from, long, 2)...)
			endsOf(t, "(.|..|.{3})*(.?.?)*", s, from, upTo(from, long, 1)...)
			endsOf(t, "(.{20}.{20}.{20})*", s, from, upTo(from, long, 60)...)
			endsOf(t, ".*b", s, from, upTo(from+2-from%2, long, 2)...)
		}
	}
}

// P11.1: Longest of the last end, not of that which a choice ahead has.
func TestLongest(t *testing.T) {
	for _, c := range []struct {
		re   string
		from int
		want int
	}{
		{"a|ab|abc", 0, 3}, {"abc|ab|a", 0, 3}, {"a?", 0, 1}, {"a?", 1, 1}, {"(a|ab)(c|bcd)?", 0, 4}, {"b", 0, -1}, {"b", 1, 2}, {"[]", 0, -1}, {"[]*", 2, 2}, {"", 4, 4}, {".", 4, -1}, {".*", 4, 4}, {".*b", 0, 2}, {".*", 0, 4},
	} {
		if got := ends.Longest(parse(t, c.re), "abcd", c.from); got != c.want {
			t.Errorf("%s from %d: got %d, want %d", c.re, c.from, got, c.want)
		}
	}
}

// rules has a rule for each expression's text; "!" is one that isn't right.
func rules(t *testing.T, list ...string) (row []api.Rule) {
	t.Helper()
	for _, re := range list {
		if re == "!" {
			row = append(row, api.Rule{Name: "x", Re: odd})
		} else {
			row = append(row, api.Rule{Name: "x", Re: parse(t, re)})
		}
	}
	return row
}

// P11.2: the farthest one, of several the first one in the list; none that isn't right, or ends where it begins.
func TestBest(t *testing.T) {
	s := "if iffy 12"
	for _, c := range []struct {
		list           []string
		from, rule, to int
	}{
		{nil, 0, -1, -1},
		{[]string{}, 3, -1, -1},
		{[]string{"if"}, 0, 0, 2},
		{[]string{"if", "[a-z]+"}, 0, 0, 2},
		{[]string{"[a-z]+", "if"}, 0, 0, 2},
		{[]string{"if", "[a-z]+"}, 3, 1, 7},
		{[]string{"[a-z]+", "if"}, 3, 0, 7},
		{[]string{"if", "[a-z]+", "[a-y]+", ".{4}"}, 3, 1, 7},
		{[]string{"if", "iff", "if|iff|i", "f"}, 3, 1, 6},
		{[]string{"i", "if", "iff", "iffy", "iffy "}, 3, 4, 8},
		{[]string{"iffy ", "iffy", "iff", "if", "i"}, 3, 0, 8},
		{[]string{"i", "iffy", "if", "iff"}, 3, 1, 7},
		{[]string{"[0-9]+", "[a-z]+"}, 8, 0, 10},
		{[]string{"[0-9]+", "[a-z]+"}, 9, 0, 10},
		{[]string{"[0-9]+", "[a-z]+"}, 2, -1, -1},
		// A Longest that is just the place, and none.
		{[]string{"x*"}, 0, -1, -1},
		{[]string{"", "()", "x?", "x{0}"}, 4, -1, -1},
		{[]string{"x", "[]", "x+"}, 4, -1, -1},
		{[]string{"x*", "i", "x*"}, 0, 1, 1},
		{[]string{"x*", "[]", "i|", "", "i"}, 0, 2, 1},
		{[]string{".*", "if"}, 10, -1, -1},
		{[]string{"."}, 10, -1, -1},
		// One that isn't right among others, in any place.
		{[]string{"!"}, 0, -1, -1},
		{[]string{"!", "!"}, 0, -1, -1},
		{[]string{"!", "if"}, 0, 1, 2},
		{[]string{"if", "!"}, 0, 0, 2},
		{[]string{"i", "!", "if", "!", "if"}, 0, 2, 2},
		{[]string{"!", "x*", "!"}, 0, -1, -1},
		{[]string{"", "!", ".*", "!", ".*"}, 7, 2, 10},
		{[]string{"!", "x"}, 4, -1, -1},
	} {
		best(t, rules(t, c.list...), s, c.from, c.rule, c.to)
		for _, from := range outside(len(s)) {
			best(t, rules(t, c.list...), s, from, -1, -1)
			best(t, rules(t, c.list...), "", from, -1, -1)
		}
	}
}

// P11.2: a place in a long list, whatever the names are; more rules than a file has.
func TestBestOfMany(t *testing.T) {
	s := strings.Repeat("a", 200)
	var list []api.Rule
	for i := range 100 {
		list = append(list, api.Rule{Name: strings.Repeat("-", i%3), Re: cat(rowOf(a, 2+i*37%100)...)})
	}
	for i := range list {
		if 2+i*37%100 == 101 {
			best(t, list, s, 0, i, 101)
			best(t, list, s, 99, i, 200)
			best(t, append(list[:i:i], list...), s, 50, 2*i, 151)
		}
		if 2+i*37%100 == 10 {
			best(t, list, s, 190, i, 200)
		}
	}
	best(t, list, s, 199, -1, -1)
}

// P11.1: Reps that would be gone through more often than any machine can, if each time were gone through by itself: the places are few.
func TestDeep(t *testing.T) {
	row := func(least, most int, inside func(api.Node) api.Node) api.Node {
		return nested(a, 12, func(n api.Node) api.Node { return rep(inside(n), least, most) })
	}
	plain := func(n api.Node) api.Node { return n }
	behindA := func(n api.Node) api.Node { return cat(a, n) }
	orBlank := func(n api.Node) api.Node { return alt(cat(a, n), empty) }
	seldom := func(n api.Node) api.Node { return alt(a, cat(a, n, b)) }
	for _, long := range []int{0, 1, 19, 20, 21, 45, 100} {
		s := strings.Repeat("a", long)
		endsAre(t, row(20, 20, plain), s, 0, nil)
		endsAre(t, row(20, -1, plain), s, 0, nil)
		endsAre(t, row(0, 20, plain), s, 0, upTo(0, long, 1))
		endsAre(t, row(1, 20, plain), s, 0, upTo(1, long, 1))
		endsAre(t, row(0, -1, plain), s, 0, upTo(0, long, 1))
		endsAre(t, row(1, -1, plain), s, 0, upTo(1, long, 1))
		endsAre(t, nested(a, 6, func(n api.Node) api.Node { return rep(rep(n, 0, 1), 20, 20) }), s, 0, upTo(0, long, 1))
		endsAre(t, row(0, 20, behindA), s, 0, upTo(0, long, 1))
		endsAre(t, row(0, -1, behindA), s, 0, upTo(0, long, 1))
		endsAre(t, row(20, 20, orBlank), s, 0, upTo(0, long, 1))
		endsAre(t, row(10, 20, seldom), s, 0, upTo(10, min(long, 20), 1))
		endsAre(t, row(0, 20, seldom), s, 0, upTo(0, min(long, 20), 1))
		endsAre(t, row(20, 20, seldom), s, 0, upTo(20, min(long, 20), 1))
		endsAre(t, row(0, -1, seldom), s, 0, upTo(0, long, 1))
		endsAre(t, cat(row(0, 20, seldom), b), s+"b", 0, map[bool][]int{true: {long + 1}}[long <= 20])
	}
	long := strings.Repeat("a", 20000)
	for _, often := range []api.Node{star(a), rep(a, 0, 20), alt(a, empty), cat(star(a), rep(a, 0, 1)), rep(alt(a, empty), 7, -1)} {
		endsAre(t, nested(often, 11, func(n api.Node) api.Node { return rep(n, 20, 20) }), long, 10, upTo(10, 20000, 1))
	}
	twice := rep(rep(a, 20, 20), 20, 20)
	endsAre(t, twice, strings.Repeat("a", 1000), 300, []int{700})
	endsAre(t, rep(twice, 0, 20), strings.Repeat("a", 2000), 3, upTo(3, 2000, 400))
	endsAre(t, rep(rep(rep(a, 19, 20), 20, 20), 2, -1), strings.Repeat("a", 2000), 1, slices.Concat(upTo(761, 801, 1), upTo(1141, 1201, 1), upTo(1521, 1601, 1), upTo(1901, 2000, 1)))
}

// P11.1: long texts and wide expressions.
func TestLong(t *testing.T) {
	s := strings.Repeat("ab", 1<<19)
	endsOf(t, "(a|b)*", s, 0, upTo(0, 1<<20, 1)...)
	endsOf(t, "(ab)*", s, 2, upTo(2, 1<<20, 2)...)
	endsOf(t, "((a*)*(b*)*)*", s, 100, upTo(100, 1<<20, 1)...)
	endsOf(t, "(.{20}){20}", s, 1<<19, 1<<19+400)
	endsOf(t, ".*c", s, 0)
	endsOf(t, "ab", s, 1<<20-2, 1<<20)
	endsOf(t, "((([ab]{20}){20}){20}){20}", s, 5, 160005)
	row := rowOf(alt(a, b), 1<<18)
	endsAre(t, cat(row...), s, 7, []int{1<<18 + 7})
	endsAre(t, alt(row...), s, 7, []int{8})
	endsAre(t, alt(append(row, cat(rowOf(anyByte, 1000)...))...), s, 7, []int{8, 1007})
	matches(t, star(cat(a, b)), s, true)
	matches(t, star(cat(a, b)), s[1:], false)
}

// P11.3: a longer text changes nothing of the ends that were there; nor does what is ahead of the place.
func TestLongerText(t *testing.T) {
	s := strings.Repeat("aabbaba", 12)
	for _, re := range []string{"", "a", "[]", "a*", "ab|aab", "(a|b)*abb", "(a*b*){3}", "(a|aab){2,5}b*", "((a{1,3}b?){2}|b)*", ".{20}.*b", "(.{7})*", "a?a?b?b?a?", "(a|b){0,20}|(.{20}){3}.?"} {
		n := parse(t, re)
		for from := range 20 {
			whole, e := ends.All(n, s, from)
			if e != api.OK {
				t.Fatal(re, from, e)
			}
			for long := from; long <= len(s); long++ {
				were := slices.DeleteFunc(slices.Clone(whole), func(to int) bool { return to > long })
				endsAre(t, n, s[:long], from, were)
				for _, more := range []string{"a", "b", "c\x00\xff", s} {
					got, _ := ends.All(n, s[:long]+more, from)
					if len(got) < len(were) || !slices.Equal(got[:len(were)], were) || len(got) > len(were) && got[len(were)] <= long {
						t.Fatalf("%q of %q and %q from %d: got %d, want %d first", re, s[:long], more, from, got, were)
					}
				}
			}
			for i := range whole {
				whole[i] += 100 - from
			}
			endsAre(t, n, strings.Repeat("ba", 50)+s[from:], 100, whole)
		}
	}
}

// roomy is the list, and each one within it, with spare room behind it that isn't blank.
func roomy(list []api.Node) []api.Node {
	row := make([]api.Node, 0, len(list)+2)
	for _, n := range list {
		n.Subs = roomy(n.Subs)
		row = append(row, n)
	}
	return append(row, odd, api.Node{Kind: 7})[:len(list)]
}

// memory has all that a list holds, its spare room too.
type memory struct {
	length int
	nodes  []api.Node
	below  []memory
}

func memoryOf(list []api.Node) memory {
	m := memory{length: len(list)}
	for _, n := range list[:cap(list)] {
		m.below = append(m.below, memoryOf(n.Subs))
		n.Subs = nil
		m.nodes = append(m.nodes, n)
	}
	return m
}

func (m memory) same(other memory) bool {
	return fmt.Sprint(m) == fmt.Sprint(other)
}

// P11.1, P11.2: what is handed in stays as it is, its spare room too, and what is answered is new, and hangs on nothing that was asked ahead.
func TestNothingIsChangedOrKept(t *testing.T) {
	list := roomy([]api.Node{parse(t, "(a|ab)*(b|)c?"), rep(alt(a, empty, cat(b, a)), 2, 5), cat(a, odd), a, odd})
	var rules []api.Rule
	for _, n := range list {
		rules = append(rules, api.Rule{Name: "x", Re: n})
	}
	before := memoryOf(list)
	for range 3 {
		for _, s := range []string{"", "aabab", "bab"} {
			for from := -1; from <= len(s)+1; from++ {
				for _, n := range list {
					want, e := ends.All(n, s, from)
					was := slices.Clone(want)
					got, _ := ends.All(n, s, from)
					for i := range got {
						got[i] = -7
					}
					_ = append(got, 8, 9)
					again, f := ends.All(n, s, from)
					if !slices.Equal(want, was) || !slices.Equal(again, was) || e != f {
						t.Fatalf("%s of %q from %d: got %d, %d, then %d, %d", name(n), s, from, was, e, again, f)
					}
					ends.Match(n, s)
					ends.Longest(n, s, from)
				}
				ends.Best(rules, s, from)
			}
		}
	}
	if !before.same(memoryOf(list)) || len(rules) != len(list) {
		t.Error("the expressions were changed")
	}
	for i, r := range rules {
		if r.Name != "x" || !before.below[i].same(memoryOf(r.Re.Subs)) {
			t.Error("the rules were changed")
		}
	}
}
