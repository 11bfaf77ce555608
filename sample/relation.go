package sample

import (
	"math/bits"

	"sieve/api"
)

// relation has of each place in a text of at most 63 bytes the places where a text of an expression that begins there ends, as bits of a number.
type relation [64]uint64

// Ends tells where the texts of an expression, right or not, end that begin at each place of a text of at most 63 bytes.
func Ends(n api.Node, s string) [][]int {
	r := relationOf(&n, s)
	list := make([][]int, len(s)+1)
	for i := range list {
		for w := r[i]; w != 0; w &= w - 1 {
			list[i] = append(list[i], bits.TrailingZeros64(w))
		}
	}
	return list
}

func relationOf(n *api.Node, s string) (r relation) {
	switch n.Kind {
	case api.Class:
		for i := range len(s) {
			if n.Set[s[i]/64]>>(s[i]%64)&1 == 1 {
				r[i] = 1 << (i + 1)
			}
		}
		return r
	case api.Alt:
		for i := range n.Subs {
			r = r.or(relationOf(&n.Subs[i], s))
		}
		return r
	case api.Rep:
		return relationOf(&n.Subs[0], s).often(n.Min, n.Max, len(s))
	}
	r = stay()
	for i := range n.Subs {
		r = r.then(relationOf(&n.Subs[i], s))
	}
	return r
}

func stay() (r relation) {
	for i := range r {
		r[i] = 1 << i
	}
	return r
}

func (r relation) or(other relation) relation {
	for i := range r {
		r[i] |= other[i]
	}
	return r
}

func (r relation) then(next relation) (both relation) {
	for i, w := range r {
		for ; w != 0; w &= w - 1 {
			both[i] |= next[bits.TrailingZeros64(w)]
		}
	}
	return both
}

// often is the relation, so often. Of more than there are bytes the ones above Min may be empty, and needn't be there.
func (r relation) often(least, most, long int) relation {
	row := stay()
	for range least {
		row = row.then(r)
	}
	if most == -1 || most > least+long {
		most = least + long
	}
	all := row
	for range most - least {
		row = row.then(r)
		all = all.or(row)
	}
	return all
}
