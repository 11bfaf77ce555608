package derive

import (
	"math/rand"
	"testing"

	"sieve/api"
	"sieve/ends"
	"sieve/regex"
	"sieve/simplify"
)

func simpleOf(t *testing.T, s string) api.Node {
	t.Helper()
	n, _, e := regex.Parse(s)
	if e != api.OK {
		t.Fatalf("%q is wrong", s)
	}
	n, _ = simplify.Simple(n)
	return n
}

// P12.1: of Rep of Max 0 nothing is left, though a simple one hasn't it.
func TestRepOfMaxZero(t *testing.T) {
	class := api.Node{Kind: api.Class, Set: api.Set{1: 1 << ('a' - 64)}}
	n := api.Node{Kind: api.Rep, Subs: []api.Node{class}}
	if left, ok := (behind{'a', mostNodes}).of(&n); !ok || !isNothing(&left) {
		t.Errorf("%v is left, %t", left, ok)
	}
}

// P12.1: of many that are the same a sum keeps few, and tells as soon as all of them are too great.
func TestSum(t *testing.T) {
	long := func(last string) api.Node {
		n := simpleOf(t, "b{2}"+last)
		for size(&n) < 1000 {
			n.Subs = append(n.Subs, n.Subs[0])
		}
		return n
	}
	all := sum{most: mostNodes}
	for i := range 1000 {
		if !all.add(long("abc"[i%3 : i%3+1])) {
			t.Fatalf("%d are too great", i)
		}
		nodes := 0
		for i := range all.list {
			nodes += size(&all.list[i])
		}
		if nodes != all.nodes || nodes > 2*mostNodes {
			t.Fatalf("it keeps %d nodes, and tells of %d", nodes, all.nodes)
		}
	}
	whole, ok := all.whole()
	if want := simplify.Alt(long("a"), long("b"), long("c")); !ok || size(&whole) != size(&want) {
		t.Errorf("%d nodes, %t", size(&whole), ok)
	}
	for i := range 9 {
		if all.add(long(string(rune('d'+i)))) && i > 7 {
			t.Error("it isn't told that they are too great")
		}
	}
}

// P12.1: what is left once has one state, wherever it comes again.
func TestStates(t *testing.T) {
	for re, want := range map[string]int{"a*": 2, "(a|b)*abb": 4 + 1, "(ab)*": 3, "a{3}": 5, "[ab]*a[ab]{3}": 16 + 1, "a|b": 3} {
		c := begin(simpleOf(t, re))
		r := rand.New(rand.NewSource(1))
		for range 5000 {
			for !c.step("abcab"[r.Intn(5)]) || isNothing(&c.here().left) {
				c.at = 0
			}
		}
		if len(c.states) > want {
			t.Errorf("%q has %d states, not %d", re, len(c.states), want)
		}
	}
}

// P12.2: a course keeps no more than is told, and goes on as before when it forgets.
func TestForgets(t *testing.T) {
	n := simpleOf(t, "[ab]*a[ab]{15}|[ab]*c")
	r := rand.New(rand.NewSource(2))
	s := make([]byte, 40000)
	for i := range s {
		s[i] = "ab"[r.Intn(2)]
	}
	c := begin(n)
	forgot, most := 0, 0
	for i, b := range s {
		was := len(c.states)
		if !c.step(b) {
			t.Fatal("too great")
		}
		if len(c.states) < was {
			forgot++
		}
		most = max(most, c.kept)
		if i%5000 == 0 {
			kept := len(c.next)
			for i := range c.states {
				kept += size(&c.states[i].left)
			}
			if kept != c.kept {
				t.Fatalf("it keeps %d, and tells of %d", kept, c.kept)
			}
		}
		if want := i >= 15 && s[i-15] == 'a'; c.here().ends != want {
			t.Fatalf("behind %d: a match is %t", i, !want)
		}
	}
	if forgot == 0 || most > mostKept+mostNodes+1 {
		t.Errorf("it forgot %d times, and kept %d", forgot, most)
	}
	to, e := Longest(n, string(s), 0)
	if want := ends.Longest(n, string(s), 0); e != api.OK || to != want {
		t.Errorf("got %d, %d, want %d", to, e, want)
	}
}

// P12.1: unlike expressions have unlike keys.
func TestKeys(t *testing.T) {
	seen := map[string]string{}
	for _, re := range []string{"", "[]", "a", "b", "[ab]", `\x00`, `\x80`, `\xff`, ".", "ab", "a|bc", "(a|bc)d", "a|bcd", "abc", "(ab|c)d", "a*", "a+", "a?", "a{2}", "a{2,}", "a{0,2}", "a{20}", "a{20,}", "a{0,20}", "(ab)*", "a*b", "ab*", "(ab*)*", "a*|b*", "(a*|b*)c", "a*|b*c", "(ab|cd|ef)*", "ab|cd|(ef)*", "ab|(cd|ef)*"} {
		n := simpleOf(t, re)
		key := string(keyed(nil, &n))
		if other, ok := seen[key]; ok {
			t.Errorf("%q and %q have one key", re, other)
		}
		seen[key] = re
		again := simpleOf(t, re)
		if string(keyed(nil, &again)) != key {
			t.Errorf("%q has two keys", re)
		}
	}
}
