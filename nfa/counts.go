package nfa

import (
	"math"

	"sieve/api"
)

// counts has of nodes with Subs how many states each takes: one that stands in many places is counted once.
type counts map[*api.Node]int

// counting is a node that is counted, and how many of its Subs aren't yet.
type counting struct {
	node *api.Node
	left int
}

// count goes down with the nodes that are open in a row, as a plain expression may be deeper than calls within calls can go.
func (c counts) count(whole *api.Node) {
	row := []counting{{whole, len(whole.Subs)}}
	for len(row) > 0 {
		last := &row[len(row)-1]
		if last.left == 0 {
			c[last.node] = c.sum(last.node)
			row = row[:len(row)-1]
			continue
		}
		last.left--
		n := &last.node.Subs[last.left]
		if _, known := c[n]; !known && len(n.Subs) > 0 {
			row = append(row, counting{n, len(n.Subs)})
		}
	}
}

// of is how many states a node takes that was counted.
func (c counts) of(n *api.Node) int {
	if len(n.Subs) == 0 {
		return own(n)
	}
	return c[n]
}

func (c counts) sum(n *api.Node) int {
	many := own(n)
	for i := range n.Subs {
		many = plus(many, c.of(&n.Subs[i]))
	}
	return many
}

// own is how many states a node takes beside its Subs'.
func own(n *api.Node) int {
	if n.Kind == api.Empty || n.Kind == api.Cat {
		return 0
	}
	return 1
}

// plus stays at the greatest int: what stands in many places may be more often than any int tells.
func plus(x, y int) int {
	return x + min(y, math.MaxInt-x)
}
