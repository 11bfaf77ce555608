package closure

import "sieve/sparse"

// span: a sparse set is over no more numbers.
const span = 1 << 16

// marks tells which states are marked. An automaton may have more states than a sparse set may be over, so several stand one behind the other.
type marks struct {
	sets []*sparse.Set
}

// newMarks takes no cells: a closer takes its own, at once.
func newMarks(states int) *marks {
	k := &marks{}
	for ; states > 0; states -= span {
		set, _ := sparse.New(nil, min(states, span))
		k.sets = append(k.sets, set)
	}
	return k
}

func (k *marks) clear() {
	for _, set := range k.sets {
		set.Clear()
	}
}

// fresh marks these states, and puts those that weren't marked behind the row.
func (k *marks) fresh(row, states []int) []int {
	for _, i := range states {
		if i/span < len(k.sets) && k.sets[i/span].Add(i%span) {
			row = append(row, i)
		}
	}
	return row
}
