package derive_test

import (
	"math/rand"
	"slices"
	"testing"

	"sieve/api"
	"sieve/derive"
	"sieve/ends"
	"sieve/show"
	"sieve/simplify"
)

// The model says what is left sentence by sentence, whatever it costs.

func modelLeft(n api.Node, b byte) api.Node {
	switch n.Kind {
	case api.Class:
		if n.Set[b/64]>>(b%64)&1 == 1 {
			return empty
		}
	case api.Alt:
		var list []api.Node
		for _, s := range n.Subs {
			list = append(list, modelLeft(s, b))
		}
		return simplify.Alt(list...)
	case api.Cat:
		switch len(n.Subs) {
		case 0:
			return modelLeft(empty, b)
		case 1:
			return modelLeft(n.Subs[0], b)
		}
		one, rest := n.Subs[0], n.Subs[1:]
		whole := simplify.Cat(slices.Concat([]api.Node{modelLeft(one, b)}, rest)...)
		if modelEmpty(one) {
			return simplify.Alt(whole, modelLeft(cat(rest...), b))
		}
		return whole
	case api.Rep:
		if n.Max == 0 {
			return nothing
		}
		least, most := n.Min-1, n.Max-1
		if n.Min == 0 {
			least = 0
		}
		if n.Max == -1 {
			most = -1
		}
		return simplify.Cat(modelLeft(n.Subs[0], b), simplify.Rep(n.Subs[0], least, most))
	}
	return nothing
}

func modelEmpty(n api.Node) bool {
	switch n.Kind {
	case api.Cat:
		return !slices.ContainsFunc(n.Subs, func(n api.Node) bool { return !modelEmpty(n) })
	case api.Alt:
		return slices.ContainsFunc(n.Subs, modelEmpty)
	case api.Rep:
		return n.Min == 0 || modelEmpty(n.Subs[0])
	}
	return n.Kind == api.Empty
}

// modelRow has what is left behind the first bytes of a text, none of them, one, and so on, as far as it isn't too great.
func modelRow(t *testing.T, n api.Node, s string) []api.Node {
	t.Helper()
	n = simplest(t, n)
	row := []api.Node{n}
	for i := range len(s) {
		n = modelLeft(n, s[i])
		if sizeOf(n) > 4000 {
			break
		}
		row = append(row, n)
	}
	return row
}

// follow: all functions answer what the model does behind some of a text's first bytes, and, where that isn't too great, what layer 11 does of what matches. It tells behind how many bytes it isn't too great.
func follow(t *testing.T, n api.Node, s string) int {
	t.Helper()
	row := modelRow(t, n, s)
	for _, i := range []int{0, 1, 2, len(row) / 2, len(row) - 1, len(row), len(s)} {
		if i > len(s) {
			continue
		}
		if i >= len(row) {
			refused(t, n, s[:i], 0, api.ErrNodes)
			continue
		}
		if got, e := derive.Word(n, s[:i]); e != api.OK || !equal(got, row[i]) {
			t.Fatalf("%s behind %.40q: got %s, %d, want %s", name(n), s[:i], name(got), e, name(row[i]))
		}
		if want := modelEmpty(row[i]); want != ends.Match(n, s[:i]) {
			t.Fatalf("%s of %.40q: the models tell %t, and otherwise", name(n), s[:i], want)
		}
		matches(t, n, s[:i], modelEmpty(row[i]))
	}
	if len(s) > 0 {
		if got, e := derive.By(n, s[0]); e != api.OK || !equal(got, modelLeft(row[0], s[0])) {
			t.Fatalf("%s by %q: got %s, %d", name(n), s[0], name(got), e)
		}
	}
	followLongest(t, n, s, row)
	return len(row) - 1
}

// followLongest: Longest ends at nothing, or where it is too great.
func followLongest(t *testing.T, n api.Node, s string, row []api.Node) {
	t.Helper()
	to := -1
	for i, left := range row {
		if modelEmpty(left) {
			to = i
		}
	}
	const ahead = "ab\xff"
	if len(row) <= len(s) {
		noLongest(t, n, s, 0, api.ErrNodes)
		noLongest(t, n, ahead+s, len(ahead), api.ErrNodes)
		return
	}
	longest(t, n, s, 0, to)
	longest(t, n, s, 0, ends.Longest(n, s, 0))
	longest(t, n, ahead+s, len(ahead), ends.Longest(n, ahead+s, len(ahead)))
}

// allTexts has the texts of so many of these bytes.
func allTexts(of string, long int) []string {
	list := []string{""}
	for range long {
		var next []string
		for _, s := range list {
			for _, b := range of {
				next = append(next, s+string(b))
			}
		}
		list = next
	}
	return list
}

var someTimes = [][2]int{{0, -1}, {1, -1}, {2, -1}, {0, 0}, {0, 1}, {1, 1}, {2, 2}, {1, 2}, {0, 3}, {3, 3}}

// levelOver: the expressions that have these as their Subs, and these.
func levelOver(list []api.Node) []api.Node {
	level := slices.Clone(list)
	for _, x := range list {
		for _, times := range someTimes {
			level = append(level, rep(x, times[0], times[1]))
		}
		for _, y := range list {
			level = append(level, cat(x, y), alt(x, y))
		}
	}
	return level
}

// P12.1, P12.2, P12.3: all expressions of few levels, by all short texts.
func TestAllSmallExpressions(t *testing.T) {
	t.Parallel()
	check := func(n api.Node, long int) {
		for _, s := range allTexts("ab", long) {
			follow(t, n, s)
		}
		if t.Failed() {
			t.FailNow()
		}
	}
	level := levelOver([]api.Node{empty, nothing, a, b})
	for i, x := range level {
		check(x, 3)
		for _, times := range someTimes {
			check(rep(x, times[0], times[1]), 3)
		}
		for j, y := range level {
			switch (i + j) % 4 {
			case 0:
				check(cat(x, y), 3)
			case 1:
				check(alt(x, y), 3)
			}
		}
	}
	for _, x := range levelOver([]api.Node{a, star(a), maybe(b), cat(a, b), alt(a, empty), alt(cat(b, a), empty)}) {
		for _, n := range []api.Node{cat(maybe(a), x, star(b)), star(alt(x, cat(b, b))), cat(x, x, x), rep(cat(x, a), 2, 3), alt(x, cat(x, b), cat(a, x))} {
			check(n, 4)
		}
	}
}

// chanceNode is right, if it has few enough brackets.
func chanceNode(r *rand.Rand, deep, often int) api.Node {
	k := r.Intn(9)
	if deep == 0 {
		k %= 3
	}
	switch {
	case k == 0:
		return []api.Node{empty, nothing, empty, anyByte}[r.Intn(4)]
	case k < 3:
		return class([]string{"a", "b", "ab", "c", "bc\xff", "a", "b"}[r.Intn(7)])
	case k < 6:
		least, most := chanceTimes(r, often)
		return rep(chanceNode(r, deep-1, often), least, most)
	}
	n := api.Node{Kind: api.Cat + k%2}
	for range 2 + r.Intn(3)/2 {
		n.Subs = append(n.Subs, chanceNode(r, r.Intn(deep), often))
	}
	n.Subs[r.Intn(len(n.Subs))] = chanceNode(r, deep-1, often)
	return n
}

func chanceTimes(r *rand.Rand, often int) (least, most int) {
	least = r.Intn(2) * r.Intn(often+1)
	switch r.Intn(3) {
	case 0:
		return least, -1
	case 1:
		return least, least
	}
	return least, least + r.Intn(often+1-least)
}

// chanceText has mostly the bytes that come first.
func chanceText(r *rand.Rand, bytes string, long int) string {
	s := make([]byte, long)
	mixed := 1 + r.Intn(len(bytes))
	for i := range s {
		s[i] = bytes[r.Intn(1+r.Intn(mixed))]
	}
	return string(s)
}

// P12.1, P12.2, P12.3: expressions and texts by chance, some of which become too great.
func TestAgainstModel(t *testing.T) {
	t.Parallel()
	r := rand.New(rand.NewSource(12))
	whole, gone := 0, 0
	for i := range 4000 {
		n := chanceNode(r, 1+i%7, []int{2, 3, 20}[i%3])
		if i%2 == 0 {
			n = nested(n, 1+r.Intn(1+r.Intn(4)), func(n api.Node) api.Node {
				least, most := chanceTimes(r, 20)
				return rep([]api.Node{n, cat(maybe(a), n), alt(n, b), cat(n, maybe(b)), alt(a, cat(a, n, b))}[r.Intn(5)], least, most)
			})
		}
		if !show.Right(n) {
			wrong(t, n)
			continue
		}
		s := chanceText(r, "abc\xff", r.Intn(1+i%24))
		if follow(t, n, s) < len(s) {
			continue
		}
		if got, _ := derive.Word(n, s); equal(got, nothing) {
			gone++
		} else {
			whole++
		}
		if t.Failed() {
			t.FailNow()
		}
	}
	if whole < 1000 || gone < 1000 {
		t.Errorf("%d went on, of %d nothing was left", whole, gone)
	}
}

// P12.1, P12.2: rows by chance that are near what is too great, behind some byte or other.
func TestNearTooGreat(t *testing.T) {
	t.Parallel()
	r := rand.New(rand.NewSource(121))
	great, not := [6]int{}, 0
	for range 60 {
		var list []api.Node
		for range 20 + r.Intn(30) {
			x := []api.Node{a, class("ab"), cat(a, b), alt(a, cat(b, c)), cat(b, star(a))}[r.Intn(5)]
			list = append(list, []api.Node{maybe(x), maybe(x), star(x), rep(x, 0, 3), alt(empty, cat(a, x))}[r.Intn(5)])
		}
		n := []api.Node{cat(list...), star(cat(list...)), cat(b, alt(cat(list...), c), maybe(a)), alt(cat(list...), cat(a, rep(cat(list...), 2, 3)))}[r.Intn(4)]
		s := chanceText(r, "abc", r.Intn(6))
		if far := follow(t, n, s); far < len(s) {
			great[far]++
		} else {
			not++
		}
		if t.Failed() {
			t.FailNow()
		}
	}
	if min(great[0], great[1], great[2]) == 0 || not < 30 {
		t.Errorf("behind so many bytes they were too great: %d; %d weren't", great, not)
	}
}
