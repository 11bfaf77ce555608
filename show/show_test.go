package show_test

import (
	"math"
	"slices"
	"strings"
	"testing"

	"sieve/api"
	"sieve/regex"
	"sieve/show"
)

func setOf(bytes string) (a api.Set) {
	for i := range len(bytes) {
		a[bytes[i]/64] |= 1 << (bytes[i] % 64)
	}
	return a
}

func others(a api.Set) api.Set {
	return api.Set{^a[0], ^a[1], ^a[2], ^a[3]}
}

func class(bytes string) api.Node {
	return api.Node{Kind: api.Class, Set: setOf(bytes)}
}

func notClass(bytes string) api.Node {
	return api.Node{Kind: api.Class, Set: others(setOf(bytes))}
}

func cat(list ...api.Node) api.Node {
	return api.Node{Kind: api.Cat, Subs: list}
}

func alt(list ...api.Node) api.Node {
	return api.Node{Kind: api.Alt, Subs: list}
}

func rep(n api.Node, least, most int) api.Node {
	return api.Node{Kind: api.Rep, Min: least, Max: most, Subs: []api.Node{n}}
}

func star(n api.Node) api.Node { return rep(n, 0, -1) }

var empty, a, b, c = api.Node{Kind: api.Empty}, class("a"), class("b"), class("c")

// equal: the tests' own Same.
func equal(a, b api.Node) bool {
	if a.Kind != b.Kind || a.Set != b.Set || a.Min != b.Min || a.Max != b.Max || len(a.Subs) != len(b.Subs) {
		return false
	}
	for i := range a.Subs {
		if !equal(a.Subs[i], b.Subs[i]) {
			return false
		}
	}
	return true
}

func equalRules(a, b []api.Rule) bool {
	return slices.EqualFunc(a, b, func(x, y api.Rule) bool { return x.Name == y.Name && equal(x.Re, y.Re) })
}

// writes: the expression is right, its text is that one, and is read as the expression.
func writes(t *testing.T, n api.Node, want string) {
	t.Helper()
	if !show.Right(n) {
		t.Errorf("%q: isn't right", want)
	}
	s, e := show.Text(n)
	if s != want || e != api.OK {
		t.Errorf("got %q, %d, want %q", s, e, want)
	}
	if back, _, e := regex.Parse(s); e != api.OK || !equal(back, n) {
		t.Errorf("%q is read as %+v, %d, not as %+v", s, back, e, n)
	}
}

// wrong: no text is read as the expression.
func wrong(t *testing.T, n api.Node) {
	t.Helper()
	if show.Right(n) {
		t.Errorf("%+v is right", n)
	}
	if s, e := show.Text(n); s != "" || e != api.ErrArg {
		t.Errorf("%+v: got %q, %d, want ErrArg", n, s, e)
	}
}

// wrongEverywhere: it isn't right alone, and nothing is right that has it, at any place and depth.
func wrongEverywhere(t *testing.T, n api.Node) {
	t.Helper()
	for _, m := range []api.Node{n, cat(n, a), cat(a, n), alt(n, a), alt(a, n), alt(a, n, b), rep(n, 1, 2)} {
		wrong(t, m)
		for _, more := range []api.Node{cat(m, b), cat(a, b, m), alt(b, m), star(m), cat(a, alt(b, star(cat(m, a)))), alt(cat(rep(m, 2, 2), b), c)} {
			wrong(t, more)
		}
	}
}

func TestDocExamples(t *testing.T) {
	writes(t, cat(alt(a, b), rep(c, 1, -1)), "(a|b)c+")
	writes(t, alt(a, empty), "a|")
}

// P8.1: of each kind, and of none.
func TestKinds(t *testing.T) {
	writes(t, empty, "")
	writes(t, a, "a")
	writes(t, cat(a, b), "ab")
	writes(t, alt(a, b), "a|b")
	writes(t, star(a), "a*")
	for _, kind := range []int{0, -1, 6, 7, 100, 1<<32 + 1, 1<<32 + 2, math.MaxInt, math.MinInt} {
		for _, n := range []api.Node{{}, a, cat(a, b), star(a)} {
			n.Kind = kind
			wrongEverywhere(t, n)
		}
	}
}

// P8.1: a field that isn't zero, though its kind has it zero.
func TestFieldsThatMustBeZero(t *testing.T) {
	for _, n := range []api.Node{empty, a, class(""), notClass(""), cat(a, b), cat(a, b, c), alt(a, b)} {
		for _, times := range [][2]int{{1, 0}, {0, 1}, {0, -1}, {-1, 0}, {1, 1}, {math.MinInt, 0}, {0, math.MaxInt}, {1 << 32, 0}} {
			m := n
			m.Min, m.Max = times[0], times[1]
			wrongEverywhere(t, m)
		}
	}
	for _, n := range []api.Node{empty, cat(a, b), alt(a, b), star(a), rep(a, 0, 0)} {
		for _, set := range []api.Set{setOf("a"), setOf("\x00"), setOf("\x7f"), setOf("\x80"), setOf("\xff"), others(api.Set{})} {
			m := n
			m.Set = set
			wrongEverywhere(t, m)
		}
	}
	for _, n := range []api.Node{empty, a, class(""), notClass("")} {
		for _, subs := range [][]api.Node{{a}, {empty}, {a, b}, {{}}} {
			m := n
			m.Subs = subs
			wrongEverywhere(t, m)
		}
	}
}

// An empty list is none.
func TestEmptyLists(t *testing.T) {
	for _, n := range []api.Node{empty, a} {
		want, _ := show.Text(n)
		n.Subs = []api.Node{}
		writes(t, n, want)
		n.Subs = make([]api.Node, 0, 3)
		writes(t, cat(star(n), b), text(t, cat(star(n), b)))
	}
	for _, n := range []api.Node{cat(), alt(), {Kind: api.Rep, Max: -1}} {
		n.Subs = []api.Node{}
		wrongEverywhere(t, n)
	}
}

func text(t *testing.T, n api.Node) string {
	t.Helper()
	s, e := show.Text(n)
	if e != api.OK {
		t.Errorf("%+v: got %d", n, e)
	}
	return s
}

// P8.1: Cat and Alt have two Subs or more, Rep has one.
func TestHowManySubs(t *testing.T) {
	wrongEverywhere(t, cat())
	wrongEverywhere(t, cat(a))
	wrongEverywhere(t, cat(empty))
	wrongEverywhere(t, cat(cat(a, b)))
	wrongEverywhere(t, alt())
	wrongEverywhere(t, alt(a))
	wrongEverywhere(t, alt(alt(a, b)))
	writes(t, cat(a, a), "aa")
	writes(t, cat(a, b, c, a), "abca")
	writes(t, alt(a, a), "a|a")
	writes(t, alt(a, b, c, a), "a|b|c|a")
	for _, times := range [][2]int{{0, -1}, {1, -1}, {0, 0}, {0, 1}, {2, 3}, {20, 20}} {
		n := rep(a, times[0], times[1])
		text(t, n)
		for _, subs := range [][]api.Node{nil, {a, b}, {a, a}, {a, empty}, {a, b, c}} {
			n.Subs = subs
			wrongEverywhere(t, n)
		}
	}
	many := make([]api.Node, 5000)
	for i := range many {
		many[i] = a
	}
	writes(t, cat(many...), strings.Repeat("a", 5000))
	writes(t, alt(many...), strings.Repeat("a|", 4999)+"a")
	many[4999] = cat(a)
	wrong(t, cat(many...))
	wrong(t, alt(many...))
}

// P8.1: Min is 0 to 20, Max is -1, or Min to 20; each with its sign.
func TestTimes(t *testing.T) {
	number := func(n int) string {
		return strings.TrimPrefix(string([]byte{byte('0' + n/10), byte('0' + n%10)}), "0")
	}
	for least := -3; least <= 24; least++ {
		for most := -3; most <= 24; most++ {
			n := rep(a, least, most)
			if least < 0 || least > 20 || most > 20 || most != -1 && most < least {
				wrong(t, n)
				wrong(t, alt(b, cat(a, n)))
				continue
			}
			sign := "{" + max(number(least), "0") + "," + number(most) + "}"
			switch [2]int{least, most} {
			case [2]int{0, -1}:
				sign = "*"
			case [2]int{1, -1}:
				sign = "+"
			case [2]int{0, 1}:
				sign = "?"
			case [2]int{least, least}:
				sign = "{" + max(number(least), "0") + "}"
			case [2]int{least, -1}:
				sign = "{" + number(least) + ",}"
			}
			writes(t, n, "a"+sign)
			writes(t, cat(n, n), "a"+sign+"a"+sign)
			writes(t, rep(n, least, most), "(a"+sign+")"+sign)
		}
	}
	for _, times := range [][2]int{{0, 21}, {20, 21}, {21, 21}, {21, -1}, {-1, -1}, {-1, 0}, {-1, 5}, {0, -2}, {1, 0}, {20, 19}, {3, 2}, {math.MinInt, -1}, {0, math.MinInt}, {0, math.MaxInt}, {math.MaxInt, math.MaxInt}, {math.MaxInt, -1}, {1 << 32, -1}, {0, 1 << 32}, {0, 1<<32 - 1}, {256, 256}} {
		wrongEverywhere(t, rep(a, times[0], times[1]))
	}
}

func TestEachSign(t *testing.T) {
	writes(t, rep(a, 0, -1), "a*")
	writes(t, rep(a, 1, -1), "a+")
	writes(t, rep(a, 0, 1), "a?")
	writes(t, rep(a, 0, 0), "a{0}")
	writes(t, rep(a, 1, 1), "a{1}")
	writes(t, rep(a, 2, 2), "a{2}")
	writes(t, rep(a, 20, 20), "a{20}")
	writes(t, rep(a, 2, -1), "a{2,}")
	writes(t, rep(a, 20, -1), "a{20,}")
	writes(t, rep(a, 0, 2), "a{0,2}")
	writes(t, rep(a, 1, 2), "a{1,2}")
	writes(t, rep(a, 9, 10), "a{9,10}")
	writes(t, rep(a, 0, 20), "a{0,20}")
	writes(t, rep(a, 19, 20), "a{19,20}")
}

// P8.1: a class's text; Set may be any one.
func TestClasses(t *testing.T) {
	writes(t, class(""), "[]")
	writes(t, notClass(""), ".")
	writes(t, class("ab"), "[ab]")
	writes(t, class("abc"), "[a-c]")
	writes(t, class("-x"), `[\x2dx]`)
	writes(t, notClass("a"), "[^a]")
	writes(t, notClass("a-]^\n"), `[^\x0a\x2d\x5d\x5ea]`)
	writes(t, class("\n"), `\x0a`)
	writes(t, class("("), `\x28`)
	writes(t, class("\xff"), `\xff`)
	writes(t, class(" "), " ")
	writes(t, class("#"), "#")
	writes(t, class(":"), ":")
	writes(t, cat(class("\x00"), class("0"), class("0")), `\x0000`)
	writes(t, cat(class(""), notClass(""), class("")), "[].[]")
	writes(t, rep(class(""), 1, -1), "[]+")
	writes(t, rep(notClass(""), 3, 3), ".{3}")
	writes(t, rep(class("ab"), 0, 1), "[ab]?")
	writes(t, rep(class("*"), 0, -1), `\x2a*`)
	for i := range 256 {
		s := string([]byte{byte(i)})
		writes(t, alt(cat(star(class(s)), notClass(s)), class(s)), text(t, class(s))+"*"+text(t, notClass(s))+"|"+text(t, class(s)))
	}
}

// P8.1: round brackets round each kind of Sub, at each place, and where there are none.
func TestBrackets(t *testing.T) {
	subs := []struct {
		n            api.Node
		s            string
		cat, alt, re bool
	}{
		{empty, "", true, false, true},
		{a, "a", false, false, false},
		{class("ab"), "[ab]", false, false, false},
		{class(""), "[]", false, false, false},
		{cat(a, b), "ab", true, false, true},
		{alt(a, b), "a|b", true, true, true},
		{alt(empty, empty), "|", true, true, true},
		{star(a), "a*", false, false, true},
		{rep(a, 1, 1), "a{1}", false, false, true},
		{rep(cat(a, b), 2, 3), "(ab){2,3}", false, false, true},
	}
	round := func(s string, yes bool) string {
		if yes {
			return "(" + s + ")"
		}
		return s
	}
	for _, x := range subs {
		writes(t, x.n, x.s)
		writes(t, star(x.n), round(x.s, x.re)+"*")
		writes(t, rep(x.n, 1, 2), round(x.s, x.re)+"{1,2}")
		for _, y := range subs {
			for _, z := range subs {
				writes(t, cat(x.n, y.n, z.n), round(x.s, x.cat)+round(y.s, y.cat)+round(z.s, z.cat))
				writes(t, alt(x.n, y.n, z.n), round(x.s, x.alt)+"|"+round(y.s, y.alt)+"|"+round(z.s, z.alt))
			}
			writes(t, cat(x.n, y.n), round(x.s, x.cat)+round(y.s, y.cat))
			writes(t, alt(x.n, y.n), round(x.s, x.alt)+"|"+round(y.s, y.alt))
		}
	}
	writes(t, cat(alt(cat(a, b), star(alt(a, empty))), empty), "(ab|(a|)*)()")
	writes(t, rep(rep(rep(a, 0, 1), 0, 1), 0, 1), "((a?)?)?")
}

// nested: the expression, wrapped as often as is told.
func nested(n api.Node, many int, wrap func(api.Node) api.Node) api.Node {
	for range many {
		n = wrap(n)
	}
	return n
}

// P8.1: 12 brackets open are right, 13 aren't, whichever node they stand in.
func TestHowManyBrackets(t *testing.T) {
	for _, wrap := range []func(api.Node) api.Node{
		star,
		func(n api.Node) api.Node { return rep(n, 2, 2) },
		func(n api.Node) api.Node { return cat(n, a) },
		func(n api.Node) api.Node { return cat(a, n) },
		func(n api.Node) api.Node { return alt(n, a) },
		func(n api.Node) api.Node { return alt(a, n, b) },
		func(n api.Node) api.Node { return alt(a, cat(n, b)) },
		func(n api.Node) api.Node { return alt(cat(a, star(n)), b) },
		func(n api.Node) api.Node { return cat(b, star(n)) },
	} {
		// The innermost one stands in no brackets, of those that are wrapped each one stands in some more.
		outer := wrap(a)
		deep := nested(outer, 12, wrap)
		if got := highest(text(t, deep)); got != 12 {
			t.Errorf("%d brackets are open", got)
		}
		writes(t, deep, text(t, deep))
		wrongEverywhere(t, nested(outer, 13, wrap))
		wrongEverywhere(t, nested(outer, 14, wrap))
		wrongEverywhere(t, nested(outer, 100, wrap))
	}
	// As deep as it can be: two levels out of three have no brackets.
	deepest := nested(alt(cat(star(a), b), c), 12, func(n api.Node) api.Node { return alt(cat(star(n), b), c) })
	writes(t, deepest, strings.Repeat("(", 12)+"a*b|c"+strings.Repeat(")*b|c", 12))
	if got := regex.Depth(deepest); got != 40 {
		t.Errorf("got depth %d", got)
	}
	wrong(t, star(deepest))
	wrong(t, cat(a, deepest))
	wrong(t, alt(deepest, a))
	wrong(t, nested(alt(cat(star(cat(a, b)), b), c), 12, func(n api.Node) api.Node { return alt(cat(star(n), b), c) }))
	wrong(t, nested(alt(cat(empty, b), c), 12, func(n api.Node) api.Node { return alt(cat(star(n), b), c) }))
	// Brackets that are closed don't count, and those of a class neither.
	twelve := nested(star(class("ab")), 12, star)
	writes(t, twelve, strings.Repeat("(", 12)+"[ab]*"+strings.Repeat(")*", 12))
	writes(t, alt(twelve, twelve, cat(twelve, twelve)), text(t, twelve)+"|"+text(t, twelve)+"|"+text(t, twelve)+text(t, twelve))
	wrong(t, alt(twelve, twelve, star(twelve)))
	wrong(t, cat(star(twelve), twelve))
	row := make([]api.Node, 100)
	for i := range row {
		row[i] = alt(a, b)
	}
	writes(t, cat(row...), strings.Repeat("(a|b)", 100))
	writes(t, cat(class("("), class("("), nested(star(class("(")), 12, star)), `\x28\x28`+strings.Repeat("(", 12)+`\x28*`+strings.Repeat(")*", 12))
}

// highest is the number of brackets that are open where most are.
func highest(s string) int {
	open, most := 0, 0
	for i := range len(s) {
		switch s[i] {
		case '(':
			open++
		case ')':
			open--
		}
		most = max(most, open)
	}
	return most
}

// P8.1: an expression that is as deep as may be handed in isn't right, and each call ends.
func TestVeryDeep(t *testing.T) {
	for _, wrap := range []func(api.Node) api.Node{
		star,
		func(n api.Node) api.Node { return cat(n, a) },
		func(n api.Node) api.Node { return alt(a, n) },
		func(n api.Node) api.Node { return api.Node{Kind: api.Cat, Subs: []api.Node{n}} },
		func(n api.Node) api.Node { return api.Node{Kind: api.Class, Subs: []api.Node{n}} },
		func(n api.Node) api.Node { return api.Node{Subs: []api.Node{n}} },
	} {
		n := nested(a, 1<<21, wrap)
		wrong2(t, n)
		wrong2(t, cat(a, alt(b, n)))
		if s, e := show.File([]api.Rule{{Name: "a", Re: n}}); s != "" || e != api.ErrArg {
			t.Errorf("got %q, %d", s, e)
		}
	}
}

// wrong2 is wrong without a word on the expression, which is too deep to be told.
func wrong2(t *testing.T, n api.Node) {
	t.Helper()
	s, e := show.Text(n)
	if show.Right(n) || s != "" || e != api.ErrArg {
		t.Errorf("got %q, %d", s, e)
	}
}

// P8.1: an expression that holds itself has no text.
func TestEndless(t *testing.T) {
	for _, kind := range []int{api.Cat, api.Alt} {
		subs := []api.Node{a, {Kind: kind}, b}
		subs[1].Subs = subs
		wrong2(t, subs[1])
	}
	subs := []api.Node{{Kind: api.Rep, Max: -1}}
	subs[0].Subs = subs
	wrong2(t, subs[0])
}

// P8.1, P8.2: what is handed in stays as it is, its spare room too.
func TestNothingIsChanged(t *testing.T) {
	spare := append(make([]api.Node, 0, 5), a, alt(b, empty), star(c))
	spare = append(spare, api.Node{Kind: 9})[:3]
	n := api.Node{Kind: api.Cat, Subs: spare}
	before := copied(api.Node{Kind: api.Cat, Subs: spare[:5]})
	list := append(make([]api.Rule, 0, 3), api.Rule{Name: "a", Re: n}, api.Rule{Name: "b", Re: empty})
	for range 2 {
		writes(t, n, "a(b|)c*")
		if s, e := show.File(list); s != "a:a(b|)c*\nb:\n" || e != api.OK {
			t.Errorf("got %q, %d", s, e)
		}
	}
	if !equal(api.Node{Kind: api.Cat, Subs: spare[:5]}, before) {
		t.Error("the Subs were changed")
	}
	if !equalRules(list[:3], []api.Rule{{Name: "a", Re: n}, {Name: "b", Re: empty}, {}}) {
		t.Error("the list was changed")
	}
}

func copied(n api.Node) api.Node {
	subs := n.Subs
	n.Subs = nil
	for _, s := range subs {
		n.Subs = append(n.Subs, copied(s))
	}
	return n
}
