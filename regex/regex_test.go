package regex_test

import (
	"math"
	"strings"
	"testing"

	"sieve/api"
	"sieve/regex"
)

// The sets and the expressions that tests want are put together by hand, so that they hang on nothing that is tested.

func setOf(bytes string) (a api.Set) {
	for i := range len(bytes) {
		a[bytes[i]/64] |= 1 << (bytes[i] % 64)
	}
	return a
}

func others(a api.Set) api.Set {
	return api.Set{^a[0], ^a[1], ^a[2], ^a[3]}
}

func class(bytes string) api.Node {
	return api.Node{Kind: api.Class, Set: setOf(bytes)}
}

func notClass(bytes string) api.Node {
	return api.Node{Kind: api.Class, Set: others(setOf(bytes))}
}

func empty() api.Node {
	return api.Node{Kind: api.Empty}
}

func cat(list ...api.Node) api.Node {
	return api.Node{Kind: api.Cat, Subs: list}
}

func alt(list ...api.Node) api.Node {
	return api.Node{Kind: api.Alt, Subs: list}
}

func rep(n api.Node, least, most int) api.Node {
	return api.Node{Kind: api.Rep, Min: least, Max: most, Subs: []api.Node{n}}
}

// equal: the tests' own Same.
func equal(a, b api.Node) bool {
	if a.Kind != b.Kind || a.Set != b.Set || a.Min != b.Min || a.Max != b.Max || len(a.Subs) != len(b.Subs) {
		return false
	}
	for i := range a.Subs {
		if !equal(a.Subs[i], b.Subs[i]) {
			return false
		}
	}
	return true
}

// reads: the text is that expression.
func reads(t *testing.T, s string, want api.Node) {
	t.Helper()
	n, at, e := regex.Parse(s)
	if e != api.OK || at != 0 || !equal(n, want) {
		t.Errorf("%q: got %+v, %d, %d, want %+v", s, n, at, e, want)
	}
}

// wrong: the text is wrong at this place.
func wrong(t *testing.T, s string, want int) {
	t.Helper()
	n, at, e := regex.Parse(s)
	if e != api.ErrSyntax || at != want || !equal(n, api.Node{}) || n.Subs != nil {
		t.Errorf("%q: got %+v, %d, %d, want ErrSyntax at %d", s, n, at, e, want)
	}
}

const (
	asItself = "abcdefghijklmnopqrstuvwxyzABCDEFGHIJKLMNOPQRSTUVWXYZ0123456789 !\"#%&',/:;<=>@_`~"
	signs    = `|*+?()[]{}.\^$-`
	hex      = "0123456789abcdef"
)

var a, b, c = class("a"), class("b"), class("c")

func TestDocExamples(t *testing.T) {
	reads(t, "ab|c*", alt(cat(a, b), rep(c, 0, -1)))
	wrong(t, "a{3,2}", 4)
	wrong(t, "(", 1)
	wrong(t, "a**", 2)
	wrong(t, "[b-a]", 3)
	reads(t, "a{2}b", cat(rep(a, 2, 2), b))
	reads(t, "(a|b)*abb", cat(rep(alt(a, b), 0, -1), a, b, b))
	reads(t, "[a-z]+", rep(class("abcdefghijklmnopqrstuvwxyz"), 1, -1))
}

// P7.1: of alt with one cat, that; else Alt. Of cat without items Empty, with one, that; else Cat.
func TestChoicesAndItems(t *testing.T) {
	reads(t, "", empty())
	reads(t, "a", a)
	reads(t, "ab", cat(a, b))
	reads(t, "abc", cat(a, b, c))
	reads(t, "a|b", alt(a, b))
	reads(t, "a|b|c", alt(a, b, c))
	reads(t, "a|a", alt(a, a))
	reads(t, "ab|c", alt(cat(a, b), c))
	reads(t, "a|bc", alt(a, cat(b, c)))
	reads(t, "ab|bc|ca", alt(cat(a, b), cat(b, c), cat(c, a)))
	reads(t, "a|", alt(a, empty()))
	reads(t, "|a", alt(empty(), a))
	reads(t, "|", alt(empty(), empty()))
	reads(t, "||", alt(empty(), empty(), empty()))
	reads(t, "a||b", alt(a, empty(), b))
	reads(t, strings.Repeat("|", 999), alt(times(1000, empty())...))
}

func times(many int, n api.Node) (list []api.Node) {
	for range many {
		list = append(list, n)
	}
	return list
}

// P7.1: of ( ) its alt's, so that what stands in it stays one by itself.
func TestRoundBrackets(t *testing.T) {
	reads(t, "()", empty())
	reads(t, "(())", empty())
	reads(t, "()()", cat(empty(), empty()))
	reads(t, "()a", cat(empty(), a))
	reads(t, "a()", cat(a, empty()))
	reads(t, "()|()", alt(empty(), empty()))
	reads(t, "(|)", alt(empty(), empty()))
	reads(t, "(|)|", alt(alt(empty(), empty()), empty()))
	reads(t, "(a)", a)
	reads(t, "((a))", a)
	reads(t, "(ab)", cat(a, b))
	reads(t, "(ab)c", cat(cat(a, b), c))
	reads(t, "a(bc)", cat(a, cat(b, c)))
	reads(t, "a(b|c)", cat(a, alt(b, c)))
	reads(t, "(a|b)c", cat(alt(a, b), c))
	reads(t, "(a|b)|c", alt(alt(a, b), c))
	reads(t, "a|(b|c)", alt(a, alt(b, c)))
	reads(t, "((a|b)(c|))*", rep(cat(alt(a, b), alt(c, empty())), 0, -1))
	reads(t, "(ab|c)|()", alt(alt(cat(a, b), c), empty()))
}

// P7.1: each sign behind each kind of atom.
func TestSigns(t *testing.T) {
	atoms := map[string]api.Node{
		"a": a, ".": notClass(""), "[ab]": class("ab"), "[]": class(""), "[^a]": notClass("a"), `\x41`: class("A"), `\*`: class("*"), `\n`: class("\n"),
		"()": empty(), "(a)": a, "(ab)": cat(a, b), "(a|b)": alt(a, b), "(a*)": rep(a, 0, -1), "(a{2,3})": rep(a, 2, 3),
	}
	signs := map[string][2]int{
		"*": {0, -1}, "+": {1, -1}, "?": {0, 1}, "{0}": {0, 0}, "{1}": {1, 1}, "{7}": {7, 7}, "{20}": {20, 20},
		"{0,}": {0, -1}, "{1,}": {1, -1}, "{20,}": {20, -1}, "{0,0}": {0, 0}, "{0,1}": {0, 1}, "{1,1}": {1, 1}, "{2,3}": {2, 3}, "{9,10}": {9, 10}, "{0,20}": {0, 20}, "{20,20}": {20, 20},
	}
	for atom, n := range atoms {
		for sign, times := range signs {
			want := rep(n, times[0], times[1])
			reads(t, atom+sign, want)
			reads(t, "b"+atom+sign+"c", cat(b, want, c))
			reads(t, atom+sign+"|"+atom, alt(want, n))
			reads(t, "("+atom+sign+")"+sign, rep(want, times[0], times[1]))
			for second := range signs { // no atom stands between them
				wrong(t, atom+sign+second, len(atom+sign))
				wrong(t, "(c|"+atom+sign+second+")", len("(c|"+atom+sign))
			}
		}
	}
}

// P7.1: a sign with no atom ahead.
func TestSignsAlone(t *testing.T) {
	for _, sign := range []string{"*", "+", "?", "{", "{2}", "{2,}", "{2,3}", "{2,1}", "{99}"} {
		wrong(t, sign, 0)
		wrong(t, sign+"a", 0)
		wrong(t, "|"+sign, 1)
		wrong(t, "a|"+sign, 2)
		wrong(t, "("+sign+")", 1)
		wrong(t, "a("+sign, 2)
		wrong(t, "(a|"+sign+")", 3)
		wrong(t, "a"+sign[:1]+"*", 2) // two signs, or { and no number
	}
}

func twoDigits(n int) string {
	return string([]byte{byte('0' + n/10), byte('0' + n%10)})
}

// spellings are the ways in which a number may be written, which may also be too great.
func spellings(n int) []string {
	if n > 9 {
		return []string{twoDigits(n)}
	}
	return []string{twoDigits(n)[1:], twoDigits(n)}
}

// P7.1: all numbers of one and two digits, alone and in pairs.
func TestNumbers(t *testing.T) {
	for m := range 100 {
		for _, first := range spellings(m) {
			head := "a{" + first
			if m > 20 {
				for _, rest := range []string{"", "}", ",}", ",1}", ",99}", "0}", "x", ","} {
					wrong(t, head+rest, 2)
				}
				continue
			}
			reads(t, head+"}", rep(a, m, m))
			reads(t, head+",}", rep(a, m, -1))
			wrong(t, head, len(head))
			wrong(t, head+"x", len(head))
			wrong(t, head+",", len(head)+1)
			wrong(t, head+",,}", len(head)+1)
			wrong(t, head+", }", len(head)+1)
			for n := range 100 {
				for _, second := range spellings(n) {
					all := head + "," + second
					if n < m || n > 20 {
						for _, rest := range []string{"}", "", "x", ",", "{"} {
							wrong(t, all+rest, len(head)+1)
						}
						continue
					}
					reads(t, all+"}", rep(a, m, n))
					wrong(t, all, len(all))
					wrong(t, all+",}", len(all))
				}
			}
		}
	}
}

// P7.1: what is no number, or none that ends.
func TestWrongNumbers(t *testing.T) {
	wrong(t, "a{", 2)
	wrong(t, "a{}", 2)
	wrong(t, "a{,}", 2)
	wrong(t, "a{,3}", 2)
	wrong(t, "a{-1}", 2)
	wrong(t, "a{ 1}", 2)
	wrong(t, "a{+1}", 2)
	wrong(t, "a{x}", 2)
	wrong(t, "a{a}", 2)
	wrong(t, "a{1a}", 3)
	wrong(t, "a{1 }", 3)
	wrong(t, "a{1,a}", 4)
	wrong(t, "a{1,-1}", 4)
	wrong(t, "a{1,2", 5)
	wrong(t, "a{1,2)", 5)
	wrong(t, "a{1,2,}", 5)
	wrong(t, "a{1}}", 4)
	wrong(t, "a{1}{1}", 4)
	// Three digits: the third one, unless the two ahead are above 20, or too small, already.
	wrong(t, "a{001}", 4)
	wrong(t, "a{020}", 4)
	wrong(t, "a{100}", 4)
	wrong(t, "a{200}", 4)
	wrong(t, "a{210}", 2)
	wrong(t, "a{999}", 2)
	wrong(t, "a{1,010}", 6)
	wrong(t, "a{1,200}", 6)
	wrong(t, "a{1,210}", 4)
	wrong(t, "a{2,010}", 4)
	wrong(t, "a{1,001}", 4)
	wrong(t, "a{"+strings.Repeat("1", 1000)+"}", 4)
	wrong(t, "a{18446744073709551616}", 4)
	// The first number counts ahead of the second one.
	wrong(t, "a{21,20}", 2)
	wrong(t, "a{21,22}", 2)
	wrong(t, "a{20,21}", 5)
	wrong(t, "a{20,19}", 5)
	wrong(t, "a{20,2}", 5)
	wrong(t, "a{3,2", 4)
	wrong(t, "a{3,02}", 4)
}

// P7.1: the bytes of [ ], and of [^ ] all others.
func TestSquareBrackets(t *testing.T) {
	reads(t, "[]", class(""))
	reads(t, "[^]", notClass(""))
	reads(t, ".", notClass(""))
	reads(t, "[a]", a)
	reads(t, "[^a]", notClass("a"))
	reads(t, "[ab]", class("ab"))
	reads(t, "[ba]", class("ab"))
	reads(t, "[aa]", a)
	reads(t, "[a-a]", a)
	reads(t, "[a-b]", class("ab"))
	reads(t, "[a-d]", class("abcd"))
	reads(t, "[^a-d]", notClass("abcd"))
	reads(t, "[a-cb-d]", class("abcd"))
	reads(t, "[a-c0-2_]", class("abc012_"))
	reads(t, "[^a-c0-2_]", notClass("abc012_"))
	reads(t, "[a-ca]", class("abc"))
	reads(t, `[\x00-\xff]`, notClass(""))
	reads(t, `[^\x00-\xff]`, class(""))
	reads(t, `[\x00-\x3f\x40-\xff]`, notClass(""))
	reads(t, `[^\x01-\xfe]`, class("\x00\xff"))
	reads(t, `[\n-\x0b]`, class("\n\x0b"))
	reads(t, `[\t-\n]`, class("\t\n"))
	reads(t, `[\*-\+]`, class("*+"))
	reads(t, `[\(-,]`, class("()*+,"))
	reads(t, `[\--/]`, class("-./"))
	reads(t, `[,-\-]`, class(",-"))
	reads(t, `[\--\-]`, class("-"))
	reads(t, `[\^]`, class("^"))
	reads(t, `[^\^]`, notClass("^"))
	reads(t, `[\]-\^]`, class("]^"))
	reads(t, "[][]", cat(class(""), class("")))
	reads(t, "[^][^]", cat(notClass(""), notClass("")))
	reads(t, "[]|[]", alt(class(""), class("")))
	for _, s := range []string{"[", "[^", "[a", "[^a", "[a-", "[^a-", "[a-b", "[ab", "[a-b0", "[]["} {
		wrong(t, s, len(s))
		wrong(t, "b("+s, len(s)+2)
	}
	wrong(t, "]", 0)
	wrong(t, "a]", 1)
	wrong(t, "[]]", 2)
	wrong(t, "[a]]", 3)
	wrong(t, "[[]", 1)
	wrong(t, "[a[]", 2)
	wrong(t, "[(]", 1)
	wrong(t, "[a|b]", 2)
	wrong(t, "[a*]", 2)
	wrong(t, "[.]", 1)
	wrong(t, "[a.]", 2)
	wrong(t, "[^^]", 2)
	wrong(t, "[a^]", 2)
	wrong(t, "[-]", 1)
	wrong(t, "[^-]", 2)
	wrong(t, "[-a]", 1)
	wrong(t, "[a-]", 3)
	wrong(t, "[a--]", 3)
	wrong(t, "[a-^]", 3)
	wrong(t, "[a-b-c]", 4)
	wrong(t, "[a-[b]]", 3)
	wrong(t, "[a{2}]", 2)
}

// P7.1: of all ranges the second byte is at least the first one.
func TestRanges(t *testing.T) {
	spell := func(b int) string { return `\x` + hex[b/16:b/16+1] + hex[b%16:b%16+1] }
	for lo := range 256 {
		all := ""
		for hi := range 256 {
			s := "[" + spell(lo) + "-" + spell(hi) + "]"
			if hi < lo {
				wrong(t, s, 6)
				continue
			}
			all += string([]byte{byte(hi)})
			reads(t, s, class(all))
			reads(t, "[^"+s[1:], notClass(all))
		}
	}
	wrong(t, "[b-a", 3)
	wrong(t, "[^b-a]", 4)
	wrong(t, "[a-cc-b]", 6)
	wrong(t, "[b-ac-b]", 3)
	wrong(t, "[^xa-cc-b", 8)
	wrong(t, `[b-\x61]`, 3)
	wrong(t, `[b-\x61`, 3)
	wrong(t, `[\x62-\x61]`, 6)
	wrong(t, `[b-\n]`, 3)
	wrong(t, `[b-\t]`, 3)
	wrong(t, `[b-\$]`, 3)
	// A second byte that isn't whole isn't too small.
	wrong(t, `[b-\`, 4)
	wrong(t, `[b-\x`, 5)
	wrong(t, `[b-\x0`, 6)
	wrong(t, `[b-\x0g]`, 6)
	wrong(t, `[b-\a]`, 4)
}

// P7.1: each byte as itself, and behind a backslash, inside of [ ] and outside.
func TestBytes(t *testing.T) {
	for i := range 256 {
		s := string([]byte{byte(i)})
		if strings.Contains(asItself, s) {
			reads(t, s, class(s))
			reads(t, "a"+s+"a", cat(a, class(s), a))
			reads(t, "["+s+"]", class(s))
			reads(t, "[^"+s+"]", notClass(s))
			reads(t, "["+s+"-"+s+"]", class(s))
			reads(t, "[a"+s+"]", class("a"+s))
		} else {
			checkNoByte(t, s)
		}
		checkEscape(t, s)
	}
}

// checkNoByte: the byte isn't written as itself, whatever else it may be.
func checkNoByte(t *testing.T, s string) {
	t.Helper()
	if !strings.Contains(`()[.|\`, s) {
		wrong(t, s, 0)
		wrong(t, "("+s+")", 1)
	}
	if !strings.Contains(`()[.|\*+?{`, s) {
		wrong(t, "a"+s, 1)
		wrong(t, "a"+s+"a", 1)
	}
	if !strings.Contains(`]\^`, s) {
		wrong(t, "["+s+"]", 1)
		wrong(t, "["+s, 1)
	}
	if !strings.Contains(`]\`, s) {
		wrong(t, "[^"+s+"]", 2)
	}
	if !strings.Contains(`]\-`, s) {
		wrong(t, "[a"+s+"]", 2)
	}
	if s != `\` {
		wrong(t, "[a-"+s+"]", 3)
	}
}

// checkEscape: the byte behind a backslash, and as both digits and as either one of two.
func checkEscape(t *testing.T, s string) {
	t.Helper()
	switch esc := `\` + s; {
	case s == "n" || s == "t":
		want := map[string]string{"n": "\n", "t": "\t"}[s]
		reads(t, esc, class(want))
		reads(t, "["+esc+"]", class(want))
	case strings.Contains(signs, s):
		reads(t, esc, class(s))
		reads(t, esc+"a", cat(class(s), a))
		reads(t, "["+esc+"]", class(s))
		reads(t, "[^"+esc+"-"+esc+"]", notClass(s))
	case s != "x":
		wrong(t, esc, 1)
		wrong(t, esc+"a", 1)
		wrong(t, "["+esc+"]", 2)
		wrong(t, "[a-"+esc+"]", 4)
	}
	digit := strings.Index(hex, s)
	if digit < 0 {
		wrong(t, `\x`+s, 2)
		wrong(t, `\x`+s+"1", 2)
		wrong(t, `\x1`+s, 3)
		wrong(t, `[\x`+s+`1]`, 3)
		wrong(t, `[\x1`+s+`]`, 4)
		return
	}
	high, low := string([]byte{byte(16*digit + 5)}), string([]byte{byte(5*16 + digit)})
	reads(t, `\x`+s+`5`, class(high))
	reads(t, `\x5`+s, class(low))
	reads(t, `[\x`+s+`5\x5`+s+`]`, class(high+low))
	reads(t, `\x5`+s+s, cat(class(low), class(s)))
	wrong(t, `\x`+s, 3)
	wrong(t, `[\x`+s, 4)
}

// P7.1: all bytes by their digits.
func TestDigitsOfSixteen(t *testing.T) {
	for i := range 256 {
		s := `\x` + hex[i/16:i/16+1] + hex[i%16:i%16+1]
		want := class(string([]byte{byte(i)}))
		reads(t, s, want)
		reads(t, "["+s+"]", want)
		reads(t, s+"*", rep(want, 0, -1))
		wrong(t, s[:3], 3)
		wrong(t, "["+s, 5)
	}
	wrong(t, `\`, 1)
	wrong(t, `a\`, 2)
	wrong(t, `\\\`, 3)
	wrong(t, `[\`, 2)
	wrong(t, `\x`, 2)
	wrong(t, `[\x`, 3)
	wrong(t, `\xA0`, 2)
	wrong(t, `\x0A`, 3)
	wrong(t, `\X00`, 1)
	wrong(t, `\N`, 1)
	wrong(t, `\x{41}`, 2)
	reads(t, `\\x41`, cat(class(`\`), class("x"), class("4"), class("1")))
	reads(t, `\\\\`, cat(class(`\`), class(`\`)))
}

// P7.1: at most 12 ( stand open at any place.
func TestOpenBrackets(t *testing.T) {
	open, shut := strings.Repeat("(", 40), strings.Repeat(")", 40)
	deep := a
	for n := 1; n < 13; n++ {
		deep = cat(b, deep)
		reads(t, open[:n]+"a"+shut[:n], a)
		reads(t, strings.Repeat("(b", n)+"a"+shut[:n], deep)
		wrong(t, open[:n], n)
		wrong(t, open[:n]+"a"+shut[:n]+")", 2*n+1)
		wrong(t, open[:n]+"a"+shut[:n-1], 2*n)
	}
	for n := 13; n < 40; n++ {
		wrong(t, open[:n], 12)
		wrong(t, open[:n]+"a"+shut[:n], 12)
		wrong(t, "a|"+open[:n]+"!", 14)
	}
	// As many again behind a closing one.
	twelve := open[:12] + shut[:12]
	reads(t, twelve+twelve, cat(empty(), empty()))
	reads(t, twelve+"|"+twelve, alt(empty(), empty()))
	wrong(t, twelve+"("+twelve+")", 36)
	reads(t, open[:11]+"()()"+shut[:11], cat(empty(), empty()))
	wrong(t, open[:11]+"()(())"+shut[:11], 14)
	wrong(t, open[:12]+")((", 14)
	reads(t, open[:12]+shut[:1]+"()"+shut[:11], cat(empty(), empty()))
	// Others don't count, nor does what is written by an escape.
	reads(t, open[:12]+"[]"+shut[:12], class(""))
	reads(t, open[:12]+`\(`+shut[:12], class("("))
	reads(t, open[:12]+`[\(\)]`+shut[:12], class("()"))
	reads(t, strings.Repeat(`\(`, 13), cat(times(13, class("("))...))
	reads(t, strings.Repeat("()", 1000), cat(times(1000, empty())...))
}

// P7.1: brackets that aren't closed, or weren't opened.
func TestBracketsThatMiss(t *testing.T) {
	wrong(t, "(a", 2)
	wrong(t, "(a|", 3)
	wrong(t, "(a(b)", 5)
	wrong(t, "(a*", 3)
	wrong(t, "a|(", 3)
	wrong(t, ")", 0)
	wrong(t, "a)", 1)
	wrong(t, "a|)", 2)
	wrong(t, "a*)", 2)
	wrong(t, "(a))", 3)
	wrong(t, "())(", 2)
	wrong(t, "(]", 1)
	wrong(t, "(}", 1)
	wrong(t, "(a]", 2)
	wrong(t, "}", 0)
	wrong(t, "a}", 1)
	wrong(t, "a{2)", 3)
	wrong(t, "a{2]", 3)
	wrong(t, "(a{2)", 4)
	wrong(t, "[a)", 2)
}

// P7.1: if several are wrong, the one that stands first.
func TestSeveralWrong(t *testing.T) {
	wrong(t, "a**(", 2)
	wrong(t, "[b-a](", 3)
	wrong(t, "([b-a]", 4)
	wrong(t, "(a{3,2}", 5)
	wrong(t, "(a{21}[b-a]", 3)
	wrong(t, "([b-a]a{21}", 4)
	wrong(t, "a{21}**", 2)
	wrong(t, "a{3,2}**", 4)
	wrong(t, "a**{3,2}", 2)
	wrong(t, "$^", 0)
	wrong(t, "a$^", 1)
	wrong(t, `\a\b`, 1)
	wrong(t, "(((((((((((((a{21}", 12)
	wrong(t, "a{21}(((((((((((((", 2)
	wrong(t, ")(", 0)
	wrong(t, "\x00\x00", 0)
}

// P7.1: of a long text, no byte is gone over again and again.
func TestLongTexts(t *testing.T) {
	const long = 1 << 18
	n, at, e := regex.Parse(strings.Repeat("a", long))
	if e != api.OK || at != 0 || n.Kind != api.Cat || len(n.Subs) != long || !equal(n.Subs[long-1], a) {
		t.Errorf("a long Cat: got %d, %d, %d, %d", n.Kind, len(n.Subs), at, e)
	}
	n, at, e = regex.Parse(strings.Repeat("(a)|", long))
	if e != api.OK || at != 0 || n.Kind != api.Alt || len(n.Subs) != long+1 || !equal(n.Subs[long-1], a) || !equal(n.Subs[long], empty()) {
		t.Errorf("a long Alt: got %d, %d, %d, %d", n.Kind, len(n.Subs), at, e)
	}
	wrong(t, strings.Repeat("(a)|", long)+")", 4*long)
	wrong(t, "((a*)|"+strings.Repeat("[^b]", long), 6+4*long)
	wrong(t, "["+strings.Repeat("a-z", long), 1+3*long)
	wrong(t, strings.Repeat("(", long), 12)
}

// P7.2: field by field.
func TestSame(t *testing.T) {
	full := api.Node{Kind: 5, Set: api.Set{1, 2, 3, 4}, Min: 6, Max: 7, Subs: []api.Node{a, b}}
	list := []api.Node{
		{}, {Kind: -1}, {Kind: 6}, {Min: 1}, {Min: -1}, {Max: 1}, {Max: -1}, {Min: math.MinInt}, {Max: math.MaxInt},
		{Set: api.Set{1}}, {Set: api.Set{0, 1}}, {Set: api.Set{0, 0, 1}}, {Set: api.Set{0, 0, 0, 1}}, {Set: api.Set{0, 0, 0, 1 << 63}},
		a, b, class(""), notClass(""), empty(), cat(), alt(), cat(a), alt(a), cat(a, b), cat(b, a), cat(a, a), cat(a, b, c), alt(a, b),
		rep(a, 0, -1), rep(a, 0, 1), rep(a, 1, -1), rep(b, 0, -1), rep(rep(a, 0, -1), 0, -1), cat(cat(a, b), c), cat(a, cat(b, c)), cat(cat(a), cat(b)), cat(cat(a, b)),
		{Subs: []api.Node{{}}}, {Subs: []api.Node{{}, {}}}, {Subs: []api.Node{{Subs: []api.Node{{}}}}}, {Subs: []api.Node{{Subs: []api.Node{{}}}, {}}}, {Subs: []api.Node{{}, {Subs: []api.Node{{}}}}},
		full,
	}
	for i := range list {
		for j := range list {
			if got := regex.Same(list[i], copied(list[j])); got != (i == j) {
				t.Errorf("%+v and %+v: got %v", list[i], list[j], got)
			}
		}
	}
	for i, change := range []func(n *api.Node){
		func(n *api.Node) { n.Kind++ }, func(n *api.Node) { n.Min-- }, func(n *api.Node) { n.Max++ },
		func(n *api.Node) { n.Set[0]++ }, func(n *api.Node) { n.Set[1]++ }, func(n *api.Node) { n.Set[2]++ }, func(n *api.Node) { n.Set[3] ^= 1 << 63 },
		func(n *api.Node) { n.Subs = nil }, func(n *api.Node) { n.Subs = n.Subs[:1] }, func(n *api.Node) { n.Subs = append(n.Subs, c) },
		func(n *api.Node) { n.Subs[0] = b }, func(n *api.Node) { n.Subs[1].Set[3] = 1 }, func(n *api.Node) { n.Subs[1].Max = 1 },
	} {
		for _, wrap := range []func(n api.Node) api.Node{
			func(n api.Node) api.Node { return n },
			func(n api.Node) api.Node { return rep(n, 0, -1) },
			func(n api.Node) api.Node { return cat(a, alt(b, n), c) },
		} {
			other := copied(full)
			change(&other)
			if regex.Same(wrap(full), wrap(other)) || regex.Same(wrap(other), wrap(full)) {
				t.Errorf("after the change %d they are the same", i)
			}
		}
	}
}

// copied is the same with lists of its own.
func copied(n api.Node) api.Node {
	subs := n.Subs
	n.Subs = nil
	for _, s := range subs {
		n.Subs = append(n.Subs, copied(s))
	}
	return n
}

// Rule 4: nil and an empty list are one.
func TestEmptyLists(t *testing.T) {
	n := api.Node{Kind: api.Empty, Subs: []api.Node{}}
	if !regex.Same(n, empty()) || !regex.Same(empty(), n) || !regex.Same(cat(a, n), cat(a, empty())) || !regex.Same(cat(empty(), n), cat(n, empty())) {
		t.Error("an empty list isn't nil")
	}
	if regex.Depth(n) != 1 || regex.Depth(cat(n)) != 2 {
		t.Error("an empty list is a level")
	}
}

// P7.2: 1, and the depth of the deepest Sub.
func TestDepth(t *testing.T) {
	for _, c := range []struct {
		n    api.Node
		want int
	}{
		{api.Node{}, 1}, {empty(), 1}, {a, 1}, {notClass(""), 1}, {cat(), 1}, {api.Node{Kind: 77, Min: 9, Max: 9}, 1},
		{cat(a), 2}, {cat(a, b), 2}, {alt(a, b, c), 2}, {rep(a, 0, 20), 2}, {api.Node{Subs: make([]api.Node, 3)}, 2},
		{rep(rep(a, 0, 1), 0, 1), 3}, {cat(a, alt(b, c)), 3}, {cat(alt(b, c), a), 3}, {cat(a, alt(b, c), a), 3},
		{cat(rep(rep(a, 0, 1), 0, 1), rep(a, 0, 1)), 4}, {cat(rep(a, 0, 1), rep(rep(a, 0, 1), 0, 1)), 4}, {alt(cat(a, b), cat(a, rep(b, 0, 1)), c), 4},
		{api.Node{Kind: api.Class, Subs: []api.Node{{Kind: api.Empty, Subs: []api.Node{a}}}}, 3},
	} {
		if got := regex.Depth(c.n); got != c.want {
			t.Errorf("%+v: got %d, want %d", c.n, got, c.want)
		}
	}
	n, _, _ := regex.Parse("((a|b)*c){2}|d")
	if got := regex.Depth(n); got != 6 {
		t.Errorf("got %d, want 6", got)
	}
}

// P7.2: as deep as an expression may be, which is deeper than calls within calls can go.
func TestDeepExpressions(t *testing.T) {
	const deep = 1 << 23
	chain := make([]api.Node, deep)
	for i := range chain {
		chain[i].Kind = api.Rep
		if i+1 < deep {
			chain[i].Subs = chain[i+1 : i+2]
		}
	}
	if got := regex.Depth(chain[0]); got != deep {
		t.Errorf("Depth: got %d", got)
	}
	if !regex.Same(chain[0], chain[0]) {
		t.Error("a deep one isn't itself")
	}
	if regex.Same(chain[0], chain[1]) || regex.Same(chain[1], chain[0]) {
		t.Error("one that is less deep is the same")
	}
	wide := cat(chain[deep-2:]...)
	wide.Subs = append(wide.Subs, chain[0], a)
	if got := regex.Depth(wide); got != deep+1 {
		t.Errorf("Depth of a wide one: got %d", got)
	}
	if !regex.Same(wide, wide) {
		t.Error("a wide one isn't itself")
	}
}

// Rule 5: what is handed in stays, and what is answered is new.
func TestNothingIsShared(t *testing.T) {
	const s = "(a|b)*[c-d]{2,3}|()"
	want := alt(cat(rep(alt(a, b), 0, -1), rep(class("cd"), 2, 3)), empty())
	first, _, _ := regex.Parse(s)
	spoil(&first)
	reads(t, s, want)
	row := []api.Node{a, b, c}
	n, m := cat(row[:2]...), cat(row[:2]...)
	if regex.Depth(n) != 2 || !regex.Same(n, m) || !equal(cat(row...), cat(a, b, c)) {
		t.Error("what was handed in isn't as it was")
	}
	// No list of an answer reaches into another one.
	second, _, _ := regex.Parse("(ab|bc)(a|b)*|c(ab)")
	grown, _, _ := regex.Parse("(ab|bc)(a|b)*|c(ab)")
	grow(&grown)
	if !equal(grown, second) {
		t.Errorf("a list that grew changed another one: %+v", grown)
	}
}

func spoil(n *api.Node) {
	for i := range n.Subs {
		spoil(&n.Subs[i])
	}
	*n = api.Node{Kind: 99}
}

// grow writes into the spare room of each list.
func grow(n *api.Node) {
	for i := range n.Subs {
		grow(&n.Subs[i])
	}
	_ = append(n.Subs, api.Node{Kind: 99}, api.Node{Kind: 99})
}
