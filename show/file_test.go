package show_test

import (
	"strings"
	"testing"

	"sieve/api"
	"sieve/rules"
	"sieve/show"
)

// file: the rules are that file, which has these rules.
func file(t *testing.T, list []api.Rule, want string) {
	t.Helper()
	s, e := show.File(list)
	if s != want || e != api.OK {
		t.Errorf("got %q, %d, want %q", s, e, want)
	}
	if back, at, e := show.Rules(s); !equalRules(back, list) || at != 0 || e != api.OK {
		t.Errorf("%q has %+v, %d, %d", s, back, at, e)
	}
}

// noFile: no file has these rules.
func noFile(t *testing.T, list []api.Rule) {
	t.Helper()
	if s, e := show.File(list); s != "" || e != api.ErrArg {
		t.Errorf("%+v: got %q, %d, want ErrArg", list, s, e)
	}
}

// has: the file has these rules.
func has(t *testing.T, s string, want ...api.Rule) {
	t.Helper()
	list, at, e := show.Rules(s)
	if !equalRules(list, want) || at != 0 || e != api.OK {
		t.Errorf("%q: got %+v, %d, %d, want %+v", s, list, at, e, want)
	}
}

// wrongAt: the file is wrong at that place.
func wrongAt(t *testing.T, s string, want int) {
	t.Helper()
	list, at, e := show.Rules(s)
	if len(list) != 0 || at != want || e != api.ErrSyntax {
		t.Errorf("%q: got %+v, %d, %d, want ErrSyntax at %d", s, list, at, e, want)
	}
}

func rule(name string, n api.Node) api.Rule { return api.Rule{Name: name, Re: n} }

func eight() (list []api.Rule) {
	for i := range 8 {
		list = append(list, rule("abcdefgh"[i:i+1], a))
	}
	return list
}

// P8.2: of no rules, of one, of several.
func TestFile(t *testing.T) {
	noFile(t, nil)
	noFile(t, []api.Rule{})
	file(t, []api.Rule{rule("id", a)}, "id:a\n")
	file(t, []api.Rule{rule("id", empty)}, "id:\n")
	file(t, []api.Rule{rule("id", alt(empty, empty)), rule("x_1", cat(alt(a, b), rep(c, 1, -1)))}, "id:|\nx_1:(a|b)c+\n")
	file(t, []api.Rule{rule("z", a), rule("a", a), rule("Z", class("\n"))}, "z:a\na:a\nZ:\\x0a\n")
	file(t, []api.Rule{rule("a", class("#")), rule("b", class(":")), rule("c", cat(class("\r"), class("\xff")))}, "a:#\nb::\nc:\\x0d\\xff\n")
	file(t, eight(), "a:a\nb:a\nc:a\nd:a\ne:a\nf:a\ng:a\nh:a\n")
	noFile(t, append(eight(), rule("i", a)))
	noFile(t, append(eight(), eight()...))
}

// P8.2: an expression that isn't right, whatever stands beside it.
func TestFileOfWrongExpressions(t *testing.T) {
	deep := nested(star(a), 12, star)
	for _, n := range []api.Node{{}, {Kind: 6}, cat(a), alt(), rep(a, 0, 21), rep(a, 3, 2), star(cat(b)), star(deep), cat(a, alt(b, star(api.Node{})))} {
		noFile(t, []api.Rule{rule("a", n)})
		noFile(t, []api.Rule{rule("a", n), rule("b", a)})
		noFile(t, []api.Rule{rule("b", a), rule("a", n)})
		for i := range 8 {
			list := eight()
			list[i].Re = n
			noFile(t, list)
		}
	}
	file(t, []api.Rule{rule("a", deep)}, "a:"+text(t, deep)+"\n")
}

// P8.2: names that no file has.
func TestFileOfWrongNames(t *testing.T) {
	for _, name := range []string{"", "a-b", "a b", "a:", "#a", "a\n", "\xff", "é", "abcdefghijklm", strings.Repeat("a", 1000), "b"} {
		noFile(t, []api.Rule{rule(name, a), rule("b", a)})
		noFile(t, []api.Rule{rule("b", a), rule(name, a)})
	}
	file(t, []api.Rule{rule("abcdefghijkl", a), rule("abcdefghijkm", a), rule("B", a), rule("_", a), rule("9", b)}, "abcdefghijkl:a\nabcdefghijkm:a\nB:a\n_:a\n9:b\n")
}

// P8.2: 1000 bytes in all, no more.
func TestFileThatIsTooLong(t *testing.T) {
	long := func(n int) api.Node {
		var list []api.Node
		for range n {
			list = append(list, a)
		}
		return cat(list...)
	}
	file(t, []api.Rule{rule("a", long(997))}, "a:"+strings.Repeat("a", 997)+"\n")
	noFile(t, []api.Rule{rule("a", long(998))})
	noFile(t, []api.Rule{rule("ab", long(997))})
	noFile(t, []api.Rule{rule("a", long(1<<20))})
	file(t, []api.Rule{rule("a", long(990)), rule("b", long(4))}, "a:"+strings.Repeat("a", 990)+"\nb:aaaa\n")
	noFile(t, []api.Rule{rule("a", long(990)), rule("b", long(5))})
	noFile(t, []api.Rule{rule("a", b), rule("b", long(994))})
	file(t, []api.Rule{rule("a", b), rule("b", long(993))}, "a:b\nb:"+strings.Repeat("a", 993)+"\n")
}

// P8.2: the rules of a file, whatever stands between.
func TestRules(t *testing.T) {
	has(t, "id:a", rule("id", a))
	has(t, "id:a\n", rule("id", a))
	has(t, "id:", rule("id", empty))
	has(t, "id:\n", rule("id", empty))
	has(t, "a:b\nb:a|b*\n", rule("a", b), rule("b", alt(a, star(b))))
	has(t, "# a remark (\n\n\na:(a)\n#b:*\n\nb::#\n\n#", rule("a", a), rule("b", cat(class(":"), class("#"))))
	has(t, "z:#\na:[\\n]", rule("z", class("#")), rule("a", class("\n")))
	has(t, "a: a", rule("a", cat(class(" "), a)))
	has(t, "a:a\nb:a\nc:a\nd:a\ne:a\nf:a\ng:a\nh:a", eight()...)
	has(t, strings.Repeat("\n", 997)+"a:b", rule("a", b))
	has(t, "if:if\nid:[a-z]+", rule("if", cat(class("i"), class("f"))), rule("id", rep(class("abcdefghijklmnopqrstuvwxyz"), 1, -1)))
}

// P8.2: a file that rules.Split refuses, which counts ahead of all texts.
func TestRulesOfNoFile(t *testing.T) {
	for _, s := range []string{"", "#", "\n\n", "id[a]", "id", ":a", "a:b\nabcdefghijklm:a", "a:a\na:a", "a:a\nb:a\na:a", "a:(\n*", "a:(\na:(", "a:(\nb", "a:)\nb:*\nc d:a", "a:a\n:", strings.Repeat("a", 1001), "a:(" + strings.Repeat("\n", 998),
		"a:*\nb:a\nc:a\nd:a\ne:a\nf:a\ng:a\nh:a\ni:a"} {
		_, at, e := rules.Split(s)
		if e != api.ErrSyntax {
			t.Errorf("%q: got %d", s, e)
		}
		wrongAt(t, s, at)
	}
	wrongAt(t, "a:(\n*", 4)
	wrongAt(t, "a:(\na:(", 4)
	wrongAt(t, "a:(\nb", 5)
	wrongAt(t, "", 0)
	wrongAt(t, "a:("+strings.Repeat("\n", 998), 1000)
}

// P8.2: a text that is no expression, at its place in the file; of several the first one.
func TestRulesOfNoExpression(t *testing.T) {
	wrongAt(t, "a:*", 2)
	wrongAt(t, "a:a**", 4)
	wrongAt(t, "id:(", 4)
	wrongAt(t, "id:(\n", 4)
	wrongAt(t, "abcdefghijkl:a{3,2}", 17)
	wrongAt(t, "a:a\nb:*", 6)
	wrongAt(t, "a:a\nb:[b-a]\nc:a", 9)
	wrongAt(t, "a:a\nb:a\nc:a|)\n", 12)
	wrongAt(t, "a:a\n\n# (\nb:(a\n", 13)
	wrongAt(t, "a:a\nb:(a", 8)
	wrongAt(t, "a:*\nb:*\nc:*", 2)
	wrongAt(t, "a:a\nb:a(\nc:*", 8)
	wrongAt(t, "a:a\nb:a(\nc:*)(", 8)
	wrongAt(t, "a:a\r\nb:a", 3)
	wrongAt(t, "a:"+strings.Repeat("(", 13)+strings.Repeat(")", 13), 14)
	has(t, "a:"+strings.Repeat("(", 12)+strings.Repeat(")", 12), rule("a", empty))
	wrongAt(t, "a:\xff", 2)
	wrongAt(t, strings.Repeat("\n", 996)+"a:b)", 999)
	wrongAt(t, strings.Repeat("\n", 996)+"a:b(", 1000)
	for i := range 8 {
		lines := strings.Split("a:a\nb:a\nc:a\nd:a\ne:a\nf:a\ng:a\nh:a", "\n")
		lines[i] = lines[i][:2] + "a{"
		wrongAt(t, strings.Join(lines, "\n"), 4*i+4)
	}
}

// Two answers share nothing.
func TestRulesAreNew(t *testing.T) {
	const s = "a:ab|c\nb:(a|b)*"
	first, _, _ := show.Rules(s)
	second, _, _ := show.Rules(s)
	first[0].Re.Subs[0].Subs[0] = c
	first[1].Re.Subs[0].Subs[1] = c
	first[1].Name = "x"
	_ = append(first[0].Re.Subs, c)
	_ = append(first[0].Re.Subs[0].Subs, c)
	want := []api.Rule{rule("a", alt(cat(a, b), c)), rule("b", star(alt(a, b)))}
	if !equalRules(second, want) {
		t.Errorf("got %+v", second)
	}
	has(t, s, want...)
}
