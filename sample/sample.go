// Package sample is for tests alone: it makes expressions and texts to try the layers by, and tells by a model of its own what matches.
package sample

import (
	"strconv"

	"sieve/api"
	"sieve/regex"
	"sieve/show"
)

// Of is the expression of a text; what isn't right, if the text is none.
func Of(text string) api.Node {
	n, _, _ := regex.Parse(text)
	return n
}

// Set has these bytes.
func Set(bytes string) (set api.Set) {
	for i := range len(bytes) {
		set[bytes[i]/64] |= 1 << (bytes[i] % 64)
	}
	return set
}

// Class is one of these bytes.
func Class(bytes string) api.Node { return api.Node{Kind: api.Class, Set: Set(bytes)} }

// Any is any byte.
func Any() api.Node {
	return api.Node{Kind: api.Class, Set: api.Set{1<<64 - 1, 1<<64 - 1, 1<<64 - 1, 1<<64 - 1}}
}

// Empty is the empty text.
func Empty() api.Node { return api.Node{Kind: api.Empty} }

// Cat is one behind the other.
func Cat(list ...api.Node) api.Node { return api.Node{Kind: api.Cat, Subs: list} }

// Alt is one of them.
func Alt(list ...api.Node) api.Node { return api.Node{Kind: api.Alt, Subs: list} }

// Rep is so often.
func Rep(n api.Node, least, most int) api.Node {
	return api.Node{Kind: api.Rep, Min: least, Max: most, Subs: []api.Node{n}}
}

// Star is as often as may be.
func Star(n api.Node) api.Node { return Rep(n, 0, -1) }

// Nested is the expression, wrapped as often as is told.
func Nested(n api.Node, many int, wrap func(api.Node) api.Node) api.Node {
	for range many {
		n = wrap(n)
	}
	return n
}

// Row is the expression, so often; what is in it stands in each.
func Row(n api.Node, many int) []api.Node {
	row := make([]api.Node, many)
	for i := range row {
		row[i] = n
	}
	return row
}

// InARow is a row as one expression.
func InARow(row ...api.Node) api.Node {
	switch len(row) {
	case 0:
		return Empty()
	case 1:
		return row[0]
	}
	return Cat(row...)
}

// Name is the beginning of an expression's text, to tell of it.
func Name(n api.Node) string {
	s, e := show.Text(n)
	if e != api.OK {
		return "what isn't right, of the kind " + strconv.Itoa(n.Kind) + " and " + strconv.Itoa(len(n.Subs)) + " Subs"
	}
	return strconv.Quote(s[:min(len(s), 300)])
}

// Size is how many nodes it has, right or not.
func Size(n api.Node) int {
	size := 1
	for i := range n.Subs {
		size += Size(n.Subs[i])
	}
	return size
}

// Small has all expressions of few nodes of the empty text, of nothing, and of the bytes a and b.
func Small() []api.Node {
	atoms := []api.Node{Empty(), Class(""), Class("a"), Class("b")}
	list := append([]api.Node(nil), atoms...)
	for _, x := range atoms {
		for _, times := range Times() {
			list = append(list, Rep(x, times[0], times[1]))
		}
		for _, y := range atoms {
			list = append(list, Cat(x, y), Alt(x, y))
		}
	}
	return list
}

// Times has numbers of each sort that a Rep may have.
func Times() [][2]int {
	return [][2]int{{0, -1}, {1, -1}, {2, -1}, {0, 0}, {0, 1}, {1, 1}, {2, 2}, {1, 2}, {0, 3}, {3, 3}}
}

// Texts has all texts of so many of these bytes.
func Texts(of string, long int) []string {
	list := []string{""}
	for range long {
		var next []string
		for _, s := range list {
			for i := range len(of) {
				next = append(next, s+of[i:i+1])
			}
		}
		list = next
	}
	return list
}
