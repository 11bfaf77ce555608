package simplify

import (
	"math/bits"

	"sieve/api"
	"sieve/regex"
)

// An expression may be deeper than calls within calls can go: here it is gone through with the lists that are still open in a row.

// copied is the same, with lists that are new.
func copied(n api.Node) api.Node {
	whole := []api.Node{n}
	for open := [][]api.Node{whole}; len(open) > 0; {
		last := len(open) - 1
		list := open[last]
		open = open[:last]
		for i := range list {
			list[i].Subs = append([]api.Node(nil), list[i].Subs...)
			if len(list[i].Subs) > 0 {
				open = append(open, list[i].Subs)
			}
		}
	}
	return whole[0]
}

// known has what stood ahead by its digest, so that in a long row each one is held against few others.
type known map[uint64][]api.Node

// add: wasn't the same one there?
func (k known) add(n api.Node) bool {
	d := digest(n)
	for _, other := range k[d] {
		if regex.Same(n, other) {
			return false
		}
	}
	k[d] = append(k[d], n)
	return true
}

// digest is a number that is the same of those that are the same, and hardly ever of others.
func digest(n api.Node) uint64 {
	sum := uint64(0)
	for open := [][]api.Node{{n}}; len(open) > 0; {
		last := len(open) - 1
		list := open[last]
		open = open[:last]
		for i := range list {
			sum = mixed(sum, &list[i])
			if len(list[i].Subs) > 0 {
				open = append(open, list[i].Subs)
			}
		}
	}
	return sum
}

// mixed is the sum with a node's own fields in it.
func mixed(sum uint64, n *api.Node) uint64 {
	const odd = 0x9e3779b97f4a7c15
	for _, w := range [...]uint64{uint64(n.Kind), n.Set[0], n.Set[1], n.Set[2], n.Set[3], uint64(n.Min), uint64(n.Max), uint64(len(n.Subs))} {
		// High bits must come down, as what is multiplied goes upward alone.
		sum = bits.RotateLeft64((sum^w)*odd, 32) * odd
	}
	return sum
}
