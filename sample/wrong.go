package sample

import (
	"math"

	"sieve/api"
)

// Wrong has expressions that aren't right, nor plain, by a field of their own, or by how many Subs they have.
func Wrong() []api.Node {
	a, b := Class("a"), Class("b")
	list := []api.Node{{}}
	for _, n := range []api.Node{Empty(), a, Class(""), Cat(a, b), Alt(a, Empty()), Star(a), Rep(a, 0, 0)} {
		list = append(list, withOther(n)...)
	}
	for _, subs := range [][]api.Node{{a}, {Empty()}, {a, b}} {
		list = append(list, api.Node{Kind: api.Empty, Subs: subs}, api.Node{Kind: api.Class, Set: a.Set, Subs: subs}, api.Node{Kind: api.Class, Subs: subs})
	}
	for _, kind := range []int{api.Cat, api.Alt} {
		for _, subs := range [][]api.Node{nil, make([]api.Node, 0, 3), {a}, {Empty()}, {Cat(a, b)}} {
			list = append(list, api.Node{Kind: kind, Subs: subs})
		}
	}
	for _, times := range [][2]int{{0, -1}, {1, -1}, {0, 0}, {0, 1}, {20, 20}} {
		for _, subs := range [][]api.Node{nil, {a, b}, {a, a, a}} {
			list = append(list, api.Node{Kind: api.Rep, Min: times[0], Max: times[1], Subs: subs})
		}
	}
	for _, times := range [][2]int{{0, 21}, {21, 21}, {21, -1}, {-1, -1}, {-1, 0}, {0, -2}, {1, 0}, {20, 19}, {math.MinInt, -1}, {0, math.MaxInt}, {1 << 32, 1 << 32}, {math.MaxInt, math.MinInt}} {
		list = append(list, Rep(a, times[0], times[1]), Rep(Class(""), times[0], times[1]))
	}
	return list
}

// withOther has the expression with one field that is wrong.
func withOther(n api.Node) (list []api.Node) {
	add := func(change func(n *api.Node)) {
		other := n
		change(&other)
		list = append(list, other)
	}
	for _, kind := range []int{0, -1, 6, 1<<32 + api.Class, math.MaxInt, math.MinInt} {
		add(func(n *api.Node) { n.Kind = kind })
	}
	if n.Kind != api.Class {
		for _, set := range []api.Set{Set("\x00"), Set("a"), {2: 1}, Set("\xff"), Any().Set} {
			add(func(n *api.Node) { n.Set = set })
		}
	}
	if n.Kind != api.Rep {
		for _, times := range [][2]int{{1, 0}, {0, 1}, {0, -1}, {1, 1}, {1, -1}, {math.MinInt, 0}, {0, math.MaxInt}} {
			add(func(n *api.Node) { n.Min, n.Max = times[0], times[1] })
		}
	}
	return list
}

// Holders has what holds the expression at any place and depth, also where it would be left out, or where the whole would be too wide.
func Holders(n api.Node) []api.Node {
	a, b, nothing := Class("a"), Class("b"), Class("")
	var list []api.Node
	for _, m := range []api.Node{n, Cat(n, a), Cat(a, n), Cat(nothing, n), Cat(n, nothing), Cat(Empty(), n), Cat(a, b, n, a), Alt(n, a), Alt(a, n), Alt(n, n, b), Star(n), Rep(n, 1, 2), Rep(n, 0, 0), Rep(n, 1, 1), Rep(n, 20, 20)} {
		list = append(list, m, Cat(m, b), Cat(nothing, b, m), Alt(b, m), Star(m), Rep(m, 0, 0), Cat(a, Alt(b, Star(Cat(m, a)))), Alt(Cat(Rep(m, 2, 2), b), a), Cat(append(Row(a, 500), m)...), Rep(Rep(Cat(m, b), 20, 20), 20, 20))
	}
	return list
}
