package expand_test

import (
	"math"
	"testing"

	"sieve/api"
	"sieve/expand"
	"sieve/measure"
	"sieve/sample"
)

// writtenRep: the row of the expression that is repeated from so many to so many times, as one.
func writtenRep(n api.Node, least, most int) api.Node {
	row := rowOf(n, least)
	if most == -1 {
		row = append(row, star(n))
	} else {
		row = append(row, rowOf(maybe(n), most-least)...)
	}
	return sample.InARow(row...)
}

// some has plain expressions of each kind, that match the empty text and that don't, and nothing.
func some() []api.Node {
	return []api.Node{empty, nothing, a, anyByte, cat(a, b), cat(nothing, empty), alt(a, b), alt(a, empty), alt(empty, empty), star(a), star(empty), star(nothing), star(alt(a, cat(b, star(c)), empty)), cat(star(a), alt(star(b), empty)), cat(a, cat(b, c)), alt(alt(a, b), alt(c, a))}
}

// P13.1: rows of none, of one, of more, told one by one.
func TestRows(t *testing.T) {
	for re, want := range map[string]string{
		"a{0}": "", "a{1}": "a", "a{2}": "aa", "a{3}": "aaa", "a{20}": "aaaaaaaaaaaaaaaaaaaa",
		"a?": "a|", "a{0,2}": "(a|)(a|)", "a{1,2}": "a(a|)", "a{0,3}": "(a|)(a|)(a|)", "a{1,3}": "a(a|)(a|)", "a{2,3}": "aa(a|)", "a{2,4}": "aa(a|)(a|)",
		"a*": "a*", "a+": "aa*", "a{2,}": "aaa*", "a{3,}": "aaaa*", "a{20,}": "aaaaaaaaaaaaaaaaaaaaa*",
		"(){0}": "", "(){1}": "()", "(){2}": "()()", "()?": "|", "()*": "()*", "()+": "()()*", "(){1,2}": "()(|)",
		"[]{0}": "", "[]{1}": "[]", "[]{2}": "[][]", "[]?": "[]|", "[]*": "[]*", "[]+": "[][]*",
		"(ab){2}": "(ab)(ab)", "(ab)?": "ab|", "(ab)+": "(ab)(ab)*", "(ab){1}": "ab", "(a|b){2}": "(a|b)(a|b)", "(a|b)?": "(a|b)|", "(a|b){1,2}": "(a|b)((a|b)|)", "(a|)?": "(a|)|", "(a*){2}": "a*a*", "(a*)?": "a*|", "(a*)+": "a*(a*)*",
		"(a?){2}": "(a|)(a|)", "(a?)?": "(a|)|", "(a?)*": "(a|)*", "(a?)+": "(a|)(a|)*", "(a{2}){2}": "(aa)(aa)", "(a{2})?": "aa|", "(a{2})*": "(aa)*", "(a{0}){3}": "()()()", "(a{3}){0}": "", "(a{1}){1}": "a", "(a{1})?": "a|", "(a+)+": "(aa*)(aa*)*", "(a{1,2}){1,2}": "(a(a|))((a(a|))|)", "((a{2}){2}){2}": "((aa)(aa))((aa)(aa))",
		"x(a{2})y": "x(aa)y", "xa{2}y": "x(aa)y", "xa{1}y": "xay", "xa{0}y": "x()y", "a?|b": "(a|)|b", "a{1}|b": "a|b", "a+|b{2}": "aa*|bb", "(a+b)?c{2,3}": "((aa*)b|)(cc(c|))",
	} {
		writesText(t, re, want)
	}
}

// timesOf: the plain one, from so many to so many times, is the row, or too wide.
func timesOf(t *testing.T, n api.Node, least, most int) {
	t.Helper()
	whole := rep(n, least, most)
	if measure.Wide(whole) > 400 {
		refused(t, whole, math.MaxInt, api.ErrNodes)
		return
	}
	writes(t, whole, writtenRep(n, least, most))
}

// P13.1: all that may be repeated, as often as may be, as far as it isn't too wide.
func TestTimes(t *testing.T) {
	t.Parallel()
	for _, n := range some() {
		for least := range 21 {
			timesOf(t, n, least, -1)
			for most := least; most <= 20; most++ {
				timesOf(t, n, least, most)
			}
		}
	}
}

// P13.1: a Rep of a Rep, each as often as may be, the outer one by the inner one, written out.
func TestRepWithinRep(t *testing.T) {
	t.Parallel()
	times := sample.Times()
	for _, n := range []api.Node{empty, nothing, a, cat(a, b), alt(a, empty), star(a)} {
		for _, x := range times {
			for _, y := range times {
				two := writtenRep(writtenRep(n, x[0], x[1]), y[0], y[1])
				writes(t, rep(rep(n, x[0], x[1]), y[0], y[1]), two)
				for _, z := range times {
					if whole := rep(rep(rep(n, x[0], x[1]), y[0], y[1]), z[0], z[1]); measure.Wide(whole) <= 400 {
						writes(t, whole, writtenRep(two, z[0], z[1]))
					} else {
						refused(t, whole, math.MaxInt, api.ErrNodes)
					}
				}
			}
		}
	}
}

// P13.1: a Rep from 0 to -1 is as it was, if its Sub is.
func TestStars(t *testing.T) {
	for _, n := range some() {
		stays(t, star(n))
		stays(t, star(star(n)))
		stays(t, cat(star(n), alt(star(n), b)))
		writes(t, star(rep(n, 2, 2)), star(cat(n, n)))
		writes(t, star(cat(a, rep(n, 0, 1))), star(cat(a, maybe(n))))
	}
}

// P13.1: what is there no time may be as wide as it likes.
func TestNoTime(t *testing.T) {
	wide := nested(a, 8, func(n api.Node) api.Node { return rep(n, 20, 20) })
	refused(t, wide, math.MaxInt, api.ErrNodes)
	for _, n := range []api.Node{wide, star(rep(catOf(wide.Subs[0], 30), 20, -1)), catOf(a, 1<<20), alt(rowOf(empty, 1<<20)...)} {
		if got, e := expand.Plain(rep(n, 0, 0), 1); e != api.OK || !equal(got, empty) {
			t.Errorf("got %s, %d", name(got), e)
		}
		whole := cat(a, rep(n, 0, 0), rep(rep(n, 0, 0), 2, 2))
		if got, e := expand.Plain(whole, 400); e != api.OK || !equal(got, cat(a, empty, cat(empty, empty))) {
			t.Errorf("got %s, %d", name(got), e)
		}
		refused(t, rep(n, 1, 1), math.MaxInt, api.ErrNodes)
	}
}

// P13.1: 400 nodes wide, and one more, whatever is in them.
func TestAsWideAsMayBe(t *testing.T) {
	for _, n := range []api.Node{
		catOf(a, 399),
		alt(rowOf(empty, 399)...),
		cat(append(rowOf(a, 338), rep(a, 20, 20))...),
		cat(append(rowOf(a, 338), rep(a, 0, 20))...),
		cat(append(rowOf(a, 376), rep(a, 20, -1))...),
		alt(append(rowOf(b, 397-61), star(rep(a, 1, 20)))...),
		cat(rep(rep(a, 3, 3), 20, 20), rep(catOf(a, 4), 3, 4), catOf(a, 128)),
		cat(rep(rep(a, 19, -1), 14, 14), catOf(a, 61)),
		cat(star(rep(rep(a, 1, 3), 2, 5)), catOf(a, 335)),
		alt(rep(rep(rep(a, 0, 2), 3, 3), 4, 9), rep(a, 1, -1), star(a), catOf(a, 120)),
	} {
		if wide := measure.Wide(n); wide != 400 {
			t.Errorf("%s is %d wide", name(n), wide)
		}
		for _, budget := range []int{400, 401, 1000, math.MaxInt} {
			writesModel(t, n, budget)
		}
		for _, budget := range []int{399, 398, 200, 1, 0, -1, -400, math.MinInt} {
			refused(t, n, budget, api.ErrNodes)
		}
		for _, more := range []api.Node{alt(append([]api.Node{a}, n.Subs...)...), cat(append(n.Subs[:len(n.Subs):len(n.Subs)], empty)...)} {
			if wide := measure.Wide(more); wide != 401 {
				t.Errorf("%s is %d wide", name(more), wide)
			}
			for _, budget := range budgets {
				refused(t, more, budget, api.ErrNodes)
			}
		}
	}
}

// P13.1: what is much too wide is refused at once, whatever the budget.
func TestTooWide(t *testing.T) {
	for _, n := range []api.Node{nested(a, 13, func(n api.Node) api.Node { return rep(n, 20, 20) }), nested(a, 13, func(n api.Node) api.Node { return rep(n, 20, -1) }), nested(a, 12, func(n api.Node) api.Node { return rep(catOf(n, 2), 20, 20) }), nested(a, 12, func(n api.Node) api.Node { return alt(rowOf(n, 3)...) }), catOf(rep(a, 20, 20), 1<<16)} {
		for _, budget := range budgets {
			refused(t, n, budget, api.ErrNodes)
		}
	}
	plain(t, nested(a, 12, func(n api.Node) api.Node { return alt(rowOf(n, 3)...) }))
}
