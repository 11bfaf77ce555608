package simplify_test

import (
	"maps"
	"math/rand"
	"slices"
	"testing"

	"sieve/api"
	"sieve/show"
	"sieve/simplify"
)

// The model goes over the whole list for each sentence of the chapter, one behind the other.

func isNothing(n api.Node) bool { return n.Kind == api.Class && n.Set == api.Set{} }
func isEmpty(n api.Node) bool   { return n.Kind == api.Empty }
func isClass(n api.Node) bool   { return n.Kind == api.Class }

// given is a list in which each of that kind gives its own Subs in its place.
func given(kind int, list []api.Node) []api.Node {
	list = slices.Clone(list)
	for i := len(list) - 1; i >= 0; i-- {
		if list[i].Kind == kind {
			list = slices.Replace(list, i, i+1, list[i].Subs...)
		}
	}
	return list
}

func left(kind int, list []api.Node, none api.Node) api.Node {
	return map[int]func() api.Node{
		0: func() api.Node { return none },
		1: func() api.Node { return list[0] },
		2: func() api.Node { return api.Node{Kind: kind, Subs: list} },
	}[min(2, len(list))]()
}

func modelCat(list []api.Node) api.Node {
	list = slices.DeleteFunc(given(api.Cat, list), isEmpty)
	if slices.ContainsFunc(list, isNothing) {
		return nothing
	}
	return left(api.Cat, list, empty)
}

func modelAlt(list []api.Node) api.Node {
	list = slices.DeleteFunc(given(api.Alt, list), isNothing)
	if i := slices.IndexFunc(list, isClass); i >= 0 {
		one := api.Node{Kind: api.Class}
		for _, n := range list {
			for w := range n.Set {
				if isClass(n) {
					one.Set[w] |= n.Set[w]
				}
			}
		}
		list = slices.Concat(list[:i], []api.Node{one}, slices.DeleteFunc(slices.Clone(list[i:]), isClass))
	}
	for i := len(list) - 1; i >= 0; i-- {
		if slices.ContainsFunc(list[:i], func(n api.Node) bool { return equal(n, list[i]) }) {
			list = slices.Delete(list, i, i+1)
		}
	}
	return left(api.Alt, list, nothing)
}

func modelRep(n api.Node, least, most int) api.Node {
	times := [2]int{least, most}
	is := func(min, max int) bool { return n.Kind == api.Rep && n.Min == min && n.Max == max }
	switch {
	case most == 0:
		return empty
	case isEmpty(n):
		return empty
	case isNothing(n) && least == 0:
		return empty
	case isNothing(n):
		return nothing
	case times == [2]int{1, 1}:
		return n
	case is(0, -1):
		return n
	case times == [2]int{0, -1} && len(n.Subs) == 1 && (is(0, n.Max) || is(1, n.Max)):
		return modelRep(n.Subs[0], 0, -1)
	}
	return rep(n, least, most)
}

func modelSimple(n api.Node) api.Node {
	var subs []api.Node
	for _, s := range n.Subs {
		subs = append(subs, modelSimple(s))
	}
	switch n.Kind {
	case api.Cat:
		return modelCat(subs)
	case api.Alt:
		return modelAlt(subs)
	case api.Rep:
		return modelRep(subs[0], n.Min, n.Max)
	}
	return n
}

// language has the texts of an expression, up to so many bytes.
type language map[string]bool

func textsOf(n api.Node, long int) language {
	list := language{}
	switch n.Kind {
	case api.Empty:
		return language{"": true}
	case api.Class:
		for i := range 256 {
			if long > 0 && n.Set[i/64]>>(i%64)&1 == 1 {
				list[string([]byte{byte(i)})] = true
			}
		}
		return list
	case api.Cat:
		list[""] = true
		for _, s := range n.Subs {
			list = behind(list, textsOf(s, long), long)
		}
		return list
	case api.Alt:
		for _, s := range n.Subs {
			maps.Copy(list, textsOf(s, long))
		}
		return list
	}
	return oftenTexts(textsOf(n.Subs[0], long), n.Min, n.Max, long)
}

func oftenTexts(once language, least, most, long int) language {
	if most == -1 {
		// Of more texts than these some above Min are empty, and needn't be there.
		most = least + long
	}
	list, row := language{}, language{"": true}
	for many := 0; ; many++ {
		if many >= least {
			maps.Copy(list, row)
		}
		if many == most {
			return list
		}
		row = behind(row, once, long)
	}
}

func behind(x, y language, long int) language {
	list := language{}
	for s := range x {
		for u := range y {
			if len(s)+len(u) <= long {
				list[s+u] = true
			}
		}
	}
	return list
}

func sizeOf(n api.Node) int {
	size := 1
	for _, s := range n.Subs {
		size += sizeOf(s)
	}
	return size
}

// isSimple: is there nothing left, at any place, that the chapter would put together otherwise?
func isSimple(n api.Node) bool {
	has := func(is func(api.Node) bool) bool { return slices.ContainsFunc(n.Subs, is) }
	kind := func(kind int) func(api.Node) bool { return func(n api.Node) bool { return n.Kind == kind } }
	classes, same := 0, false
	for i, s := range n.Subs {
		if isClass(s) {
			classes++
		}
		same = same || slices.ContainsFunc(n.Subs[:i], func(n api.Node) bool { return equal(n, s) })
		if !isSimple(s) {
			return false
		}
	}
	switch n.Kind {
	case api.Cat:
		return len(n.Subs) > 1 && !has(kind(api.Cat)) && !has(isEmpty) && !has(isNothing)
	case api.Alt:
		return len(n.Subs) > 1 && !has(kind(api.Alt)) && !has(isNothing) && classes < 2 && !same
	case api.Rep:
		s := n.Subs[0]
		star := n.Min == 0 && n.Max == -1
		return n.Max != 0 && (n.Min != 1 || n.Max != 1) && !has(isEmpty) && !has(isNothing) && !(s.Kind == api.Rep && (s.Min == 0 && s.Max == -1 || star && s.Min < 2))
	}
	return true
}

// check holds what a right expression is when it is simple against the model, and against what follows for it, by its texts of up to so many bytes.
func check(t *testing.T, n api.Node, long int) {
	t.Helper()
	got, e := simplify.Simple(n)
	if want := modelSimple(n); e != api.OK || !equal(got, want) {
		t.Fatalf("%s: got %s, %d, want %s", name(n), name(got), e, name(want))
	}
	if !show.Right(got) || !isSimple(got) || sizeOf(got) > sizeOf(n) {
		t.Fatalf("%s: %s isn't right, isn't simple, or is greater", name(n), name(got))
	}
	if again, e := simplify.Simple(got); e != api.OK || !equal(again, got) {
		t.Fatalf("%s: %s, made simple again, is %s, %d", name(n), name(got), name(again), e)
	}
	if !maps.Equal(textsOf(got, long), textsOf(n, long)) {
		t.Fatalf("%s: %s matches others", name(n), name(got))
	}
}

var someTimes = [][2]int{{0, -1}, {1, -1}, {2, -1}, {0, 0}, {0, 1}, {1, 1}, {2, 2}, {0, 2}, {1, 2}}

// levelOver: the expressions that have these as their Subs, and these.
func levelOver(list []api.Node, many int) []api.Node {
	level := slices.Clone(list)
	for _, x := range list {
		for _, times := range someTimes {
			level = append(level, rep(x, times[0], times[1]))
		}
		for _, y := range list {
			level = append(level, cat(x, y), alt(x, y))
			for i := 0; many > 2 && i < len(list); i++ {
				level = append(level, cat(x, y, list[i]), alt(x, y, list[i]))
			}
		}
	}
	return level
}

// P10.1, P10.2: all expressions of few levels.
func TestAllSmallExpressions(t *testing.T) {
	atoms := []api.Node{empty, nothing, a, class("ab")}
	for _, n := range levelOver(levelOver(atoms, 2), 2) {
		check(t, n, 4)
	}
	for _, n := range levelOver(slices.Concat(atoms, []api.Node{b, star(a), star(b), rep(a, 1, -1), rep(a, 0, 1), cat(a, b), cat(b, star(a)), alt(star(a), b), alt(a, empty)}), 3) {
		check(t, n, 4)
	}
}

// chanceNode is right, but for the number of brackets.
func chanceNode(r *rand.Rand, deep int) api.Node {
	k := r.Intn(8)
	if deep == 0 {
		k %= 2
	}
	switch {
	case k == 0:
		return []api.Node{empty, nothing}[r.Intn(2)]
	case k == 1:
		return class([]string{"a", "b", "ab", "c", "bc", "a", "b"}[r.Intn(7)])
	case k < 4:
		least := r.Intn(1 + r.Intn(4))
		most := []int{-1, -1, least, least + 1, least + r.Intn(4)}[r.Intn(5)]
		return rep(chanceNode(r, deep-1), least, most)
	}
	n := api.Node{Kind: api.Cat + k%2}
	for range 2 + r.Intn(3) {
		n.Subs = append(n.Subs, chanceNode(r, r.Intn(deep)))
	}
	i := r.Intn(len(n.Subs))
	n.Subs[i] = chanceNode(r, deep-1)
	if r.Intn(3) == 0 {
		n.Subs[r.Intn(len(n.Subs))] = n.Subs[i]
	}
	return n
}

// P10.1, P10.2: right expressions by chance.
func TestAgainstModel(t *testing.T) {
	r := rand.New(rand.NewSource(10))
	right, shorter := 0, 0
	for i := range 6000 {
		n := chanceNode(r, i%12)
		if !show.Right(n) {
			wrong(t, n)
			continue
		}
		check(t, n, 3)
		right++
		if got, _ := simplify.Simple(n); sizeOf(got) < sizeOf(n) && got.Kind > api.Class {
			shorter++
		}
	}
	if right < 3000 || shorter < 1000 {
		t.Errorf("%d were right, %d became shorter, but weren't a byte's in the end", right, shorter)
	}
}

// P10.1, P10.2: simple Subs by chance, put together simply, are simple, and match what they match put together as they are.
func TestSimpleSubsByChance(t *testing.T) {
	r := rand.New(rand.NewSource(101))
	for range 4000 {
		var list []api.Node
		for range r.Intn(6) {
			n, e := simplify.Simple(chanceNode(r, r.Intn(4)))
			if e != api.OK {
				t.Fatal("chanceNode isn't right")
			}
			list = append(list, n)
		}
		together := func(got, whole api.Node) {
			t.Helper()
			if !isSimple(got) || !maps.Equal(textsOf(got, 3), textsOf(whole, 3)) {
				t.Fatalf("%s: got %s", name(whole), name(got))
			}
		}
		together(simplify.Cat(list...), cat(list...))
		together(simplify.Alt(list...), alt(list...))
		for _, n := range list {
			for _, times := range someTimes {
				together(simplify.Rep(n, times[0], times[1]), rep(n, times[0], times[1]))
			}
		}
	}
}

// anyNode is of any kind, with any Subs.
func anyNode(r *rand.Rand, deep int) api.Node {
	n := []api.Node{empty, nothing, a, b, class("ab"), star(a), rep(a, 1, 1), cat(a, b), alt(star(a), b), {}}[r.Intn(10)]
	if deep == 0 || r.Intn(4) == 0 {
		return n
	}
	n = api.Node{Kind: []int{api.Empty, api.Class, api.Cat, api.Cat, api.Alt, api.Alt, api.Rep, api.Rep, 9}[r.Intn(9)]}
	if r.Intn(4) == 0 {
		n.Set[r.Intn(4)] = 1 << r.Intn(64)
	}
	if n.Kind == api.Rep || r.Intn(4) == 0 {
		n.Min, n.Max = r.Intn(4)-r.Intn(2), r.Intn(4)-1
	}
	for range r.Intn(4) {
		n.Subs = append(n.Subs, anyNode(r, r.Intn(deep)))
	}
	if n.Kind == api.Rep && r.Intn(4) > 0 {
		n.Subs = []api.Node{anyNode(r, deep-1)}
	}
	return n
}

// P10.1: any Subs by chance, put together as the model does, in new memory.
func TestAnySubsByChance(t *testing.T) {
	r := rand.New(rand.NewSource(102))
	for range 8000 {
		var list []api.Node
		for range r.Intn(6) {
			list = append(list, anyNode(r, r.Intn(5)))
		}
		if len(list) > 1 && r.Intn(3) == 0 {
			list[r.Intn(len(list))] = list[r.Intn(len(list))]
		}
		cats(t, modelCat(list), list...)
		alts(t, modelAlt(list), list...)
		for _, n := range list {
			for _, times := range [][2]int{{0, -1}, someTimes[r.Intn(len(someTimes))], {r.Intn(24) - 2, r.Intn(24) - 2}} {
				reps(t, modelRep(n, times[0], times[1]), n, times[0], times[1])
			}
		}
		if t.Failed() {
			t.FailNow()
		}
	}
}
