package show_test

import (
	"math/rand"
	"strconv"
	"strings"
	"testing"

	"sieve/api"
	"sieve/bytes256"
	"sieve/regex"
	"sieve/show"
)

// The model writes an expression whatever it is, asks of its text how many brackets are open, and of each node alone whether it is right.

func modelRight(n api.Node) bool {
	return modelFields(n) && highest(modelText(n)) <= 12
}

func modelFields(n api.Node) bool {
	bare := n
	bare.Subs = nil
	switch {
	case n.Kind == api.Class:
		bare.Set = api.Set{}
	case n.Kind == api.Rep && n.Min >= 0 && n.Min <= 20 && (n.Max == -1 || n.Min <= n.Max && n.Max <= 20):
		bare.Min, bare.Max = 0, 0
	}
	if !equal(bare, api.Node{Kind: n.Kind}) {
		return false
	}
	most := map[int]int{api.Empty: 0, api.Class: 0, api.Cat: 1 << 30, api.Alt: 1 << 30, api.Rep: 1}
	least := map[int]int{api.Empty: 0, api.Class: 0, api.Cat: 2, api.Alt: 2, api.Rep: 1}
	if m, ok := most[n.Kind]; !ok || len(n.Subs) > m || len(n.Subs) < least[n.Kind] {
		return false
	}
	for _, s := range n.Subs {
		if !modelFields(s) {
			return false
		}
	}
	return true
}

// How much an expression's text holds together: a choice, what stands in a row, an item, an atom.
const (
	choice = iota
	row
	item
	atom
)

func holds(n api.Node) int {
	return map[int]int{api.Empty: row, api.Class: atom, api.Cat: row, api.Alt: choice, api.Rep: item}[n.Kind]
}

func modelText(n api.Node) string {
	inside := func(s api.Node, least int) string {
		if holds(s) < least {
			return "(" + modelText(s) + ")"
		}
		return modelText(s)
	}
	var list []string
	switch n.Kind {
	case api.Class:
		return bytes256.Text(n.Set)
	case api.Cat:
		for _, s := range n.Subs {
			list = append(list, inside(s, item))
		}
	case api.Alt:
		for _, s := range n.Subs {
			list = append(list, inside(s, row), "|")
		}
		list = list[:max(0, len(list)-1)]
	case api.Rep:
		for _, s := range n.Subs {
			list = append(list, inside(s, atom))
		}
		list = append(list, modelSign(n.Min, n.Max))
	}
	return strings.Join(list, "")
}

func modelSign(least, most int) string {
	long := "{" + strconv.Itoa(least) + "," + strings.ReplaceAll(strconv.Itoa(most), "-1", "") + "}"
	if short := map[string]string{"{0,}": "*", "{1,}": "+", "{0,1}": "?"}[long]; short != "" {
		return short
	}
	if least == most {
		return "{" + strconv.Itoa(least) + "}"
	}
	return long
}

// check holds an expression against the model.
func check(t *testing.T, n api.Node) bool {
	t.Helper()
	if modelRight(n) {
		writes(t, n, modelText(n))
		return true
	}
	wrong(t, n)
	return false
}

// P8.3: all short texts that are read, written, and read again.
func TestAllShortTexts(t *testing.T) {
	for _, c := range []struct {
		bytes string
		long  int
	}{{"a()|*", 7}, {"a(){,}012", 6}, {"a(|+?)[^]-b", 5}, {`a()[]{}|*.\n-2`, 4}} {
		again(t, c.bytes, "", c.long)
	}
}

func again(t *testing.T, bytes, s string, more int) {
	n, _, e := regex.Parse(s)
	if e == api.OK {
		check(t, n)
		if !show.Right(n) {
			t.Errorf("%q is read, but isn't right", s)
		}
	}
	for i := 0; i < len(bytes) && more > 0 && !t.Failed(); i++ {
		again(t, bytes, s+bytes[i:i+1], more-1)
	}
}

// P8.1, P8.3: all expressions of few levels, right ones and others.
func TestAllSmallExpressions(t *testing.T) {
	level := []api.Node{empty, a, class(""), {}}
	for range 2 {
		var next []api.Node
		for _, x := range level {
			next = append(next, star(x), rep(x, 1, 1), rep(x, 2, 1), cat(x), alt(x))
			for _, y := range level {
				next = append(next, cat(x, y), alt(x, y), api.Node{Kind: api.Rep, Max: -1, Subs: []api.Node{x, y}})
				if len(level) < 10 {
					next = append(next, cat(x, y, a), alt(x, y, empty))
				}
			}
		}
		level = append(level, next...)
	}
	right := 0
	for _, n := range level {
		if check(t, n) {
			right++
		}
		if t.Failed() {
			t.FailNow()
		}
	}
	if right < 1000 || len(level)-right < 1000 {
		t.Errorf("%d of %d are right", right, len(level))
	}
}

// chanceNode is right, but for the number of brackets.
func chanceNode(r *rand.Rand, deep int) api.Node {
	k := r.Intn(8)
	if deep == 0 {
		k %= 2
	}
	switch {
	case k == 0:
		return empty
	case k == 1:
		return api.Node{Kind: api.Class, Set: chanceSet(r)}
	case k < 4:
		least := r.Intn(21)
		most := []int{-1, least, least + r.Intn(21-least)}[r.Intn(3)]
		return rep(chanceNode(r, deep-1), least*r.Intn(2), most)
	}
	n := api.Node{Kind: api.Cat + k%2}
	for range 2 + r.Intn(3)/2 {
		n.Subs = append(n.Subs, chanceNode(r, r.Intn(deep)))
	}
	i := r.Intn(len(n.Subs))
	n.Subs[i] = chanceNode(r, deep-1)
	return n
}

func chanceSet(r *rand.Rand) (s api.Set) {
	if r.Intn(2) == 0 {
		return setOf(string([]byte{byte(r.Intn(256))}))
	}
	for range r.Intn(4) {
		for b, many := r.Intn(256), r.Intn(256); many > 0; many-- {
			s[b/64] ^= 1 << (b % 64)
			b = (b + 1) % 256
		}
	}
	return s
}

// nodesOf has all nodes of an expression, so that each can be changed.
func nodesOf(n *api.Node) []*api.Node {
	list := []*api.Node{n}
	for i := range n.Subs {
		list = append(list, nodesOf(&n.Subs[i])...)
	}
	return list
}

func spoil(r *rand.Rand, n *api.Node) {
	switch r.Intn(6) {
	case 0:
		n.Kind = r.Intn(8) - 1
	case 1:
		n.Min += r.Intn(5) - 2
	case 2:
		n.Max += r.Intn(5) - 2
	case 3:
		n.Set[r.Intn(4)] ^= 1 << r.Intn(64)
	case 4:
		n.Subs = append(n.Subs, a)
	case 5:
		n.Subs = n.Subs[:len(n.Subs)/2]
	}
}

// P8.1, P8.3: expressions by chance, right ones, too deep ones, and ones with a field that is changed.
func TestAgainstModel(t *testing.T) {
	r := rand.New(rand.NewSource(8))
	right, wrongOnes := 0, 0
	for i := range 8000 {
		n := chanceNode(r, i%30)
		if i%2 == 1 {
			all := nodesOf(&n)
			spoil(r, all[r.Intn(len(all))])
		}
		if check(t, n) {
			right++
		} else {
			wrongOnes++
		}
		if t.Failed() {
			t.FailNow()
		}
	}
	if right < 1000 || wrongOnes < 1000 {
		t.Errorf("%d were right, %d wrong", right, wrongOnes)
	}
}

// P8.2, P8.3: files by chance, written and read again.
func TestFilesByChance(t *testing.T) {
	r := rand.New(rand.NewSource(82))
	right, wrongOnes := 0, 0
	for range 3000 {
		var list []api.Rule
		want, ok, seen := "", true, map[string]int{}
		for range r.Intn(10) {
			name := []string{"a", "b", "Id", "x_1", "abcdefghijkl", "", "a-b", "n0", "n1", "n2", "n3", "n4", "n5"}[min(12, r.Intn(50))]
			if name == "n5" {
				name = "m" + strconv.Itoa(r.Intn(99))
			}
			n := chanceNode(r, r.Intn(8))
			if r.Intn(30) == 0 {
				spoil(r, &n)
			}
			list = append(list, rule(name, n))
			seen[name]++
			ok = ok && modelRight(n) && name != "" && name != "a-b" && seen[name] == 1
			want += name + ":" + modelText(n) + "\n"
		}
		if ok && len(list) > 0 && len(list) <= 8 && len(want) <= 1000 {
			right++
			file(t, list, want)
		} else {
			wrongOnes++
			noFile(t, list)
		}
		if t.Failed() {
			t.FailNow()
		}
	}
	if right < 500 || wrongOnes < 500 {
		t.Errorf("%d were right, %d wrong", right, wrongOnes)
	}
}
