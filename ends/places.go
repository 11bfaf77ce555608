package ends

import (
	"math/bits"
	"slices"

	"sieve/api"
)

// places are some places of a text: p is one of them, if the bit p%64 of the word p/64 is 1. The words ahead of the first one with such a bit, and those behind the last one, aren't there, so that few places that are near one another take few words, wherever in the text they are; none have no words, and are the zero value.
type places struct {
	first int // which word words[0] is
	words []uint64
}

func placeAt(p int) places {
	return places{p / 64, []uint64{1 << (p % 64)}}
}

// trimmed are the places of words that may have no bit.
func trimmed(first int, words []uint64) places {
	for len(words) > 0 && words[len(words)-1] == 0 {
		words = words[:len(words)-1]
	}
	for len(words) > 0 && words[0] == 0 {
		first, words = first+1, words[1:]
	}
	if len(words) == 0 {
		return places{}
	}
	return places{first, words}
}

func (x places) none() bool { return len(x.words) == 0 }

// last is the last one; -1, if there is none.
func (x places) last() int {
	if x.none() {
		return -1
	}
	end := len(x.words) - 1
	return 64*(x.first+end) + bits.Len64(x.words[end]) - 1
}

// list has them rising.
func (x places) list() []int {
	var row []int
	for i, w := range x.words {
		for ; w != 0; w &= w - 1 {
			row = append(row, 64*(x.first+i)+bits.TrailingZeros64(w))
		}
	}
	return row
}

// over has the places behind a byte of the set at one of them.
func (x places) over(a api.Set, s string) places {
	words := make([]uint64, len(x.words)+1)
	for i, w := range x.words {
		for ; w != 0; w &= w - 1 {
			bit := 64*i + bits.TrailingZeros64(w)
			if at := 64*x.first + bit; at < len(s) && has(a, s[at]) {
				words[(bit+1)/64] |= 1 << ((bit + 1) % 64)
			}
		}
	}
	return trimmed(x.first, words)
}

func has(a api.Set, b byte) bool {
	return a[b/64]>>(b%64)&1 == 1
}

// without has those of x that aren't of y.
func (x places) without(y places) places {
	words := slices.Clone(x.words)
	for i := max(x.first, y.first); i < min(x.first+len(x.words), y.first+len(y.words)); i++ {
		words[i-x.first] &^= y.words[i-y.first]
	}
	return trimmed(x.first, words)
}

// add puts those of y in, and tells how many are new. As it writes over words, x must be a set of its own, that began as the zero value.
func (x *places) add(y places) int {
	if y.none() {
		return 0
	}
	x.widen(y.first, y.first+len(y.words))
	fresh := 0
	for i, w := range y.words {
		own := &x.words[y.first+i-x.first]
		fresh += bits.OnesCount64(w &^ *own)
		*own |= w
	}
	return fresh
}

// widen makes room for the words from first to ahead of end.
func (x *places) widen(first, end int) {
	if x.none() {
		x.first = first
	}
	if ahead := x.first - first; ahead > 0 {
		x.first, x.words = first, append(make([]uint64, ahead), x.words...)
	}
	if behind := end - x.first - len(x.words); behind > 0 {
		x.words = append(x.words, make([]uint64, behind)...)
	}
}
