package measure

import (
	"math"

	"sieve/api"
	"sieve/bytes256"
)

// texts is what is asked of the texts that an expression matches; its zero value is that of the empty text alone.
type texts struct {
	none    bool    // there are none: all else tells nothing
	endless bool    // there is no longest one: most tells nothing
	first   api.Set // the bytes with which they begin
	least   int     // how long the shortest one is
	most    int     // how long the longest one is
}

// textsOf asks them of a right expression.
func textsOf(n *api.Node) texts {
	switch n.Kind {
	case api.Class:
		return bytesOf(n.Set)
	case api.Cat:
		var t texts
		for i := range n.Subs {
			t = t.then(textsOf(&n.Subs[i]))
		}
		return t
	case api.Alt:
		t := texts{none: true}
		for i := range n.Subs {
			t = t.or(textsOf(&n.Subs[i]))
		}
		return t
	case api.Rep:
		return textsOf(&n.Subs[0]).repeated(n.Min, n.Max)
	}
	return texts{}
}

// bytesOf has a text for each byte of the set.
func bytesOf(a api.Set) texts {
	if bytes256.Count(a) == 0 {
		return texts{none: true}
	}
	return texts{first: a, least: 1, most: 1}
}

// then has the texts of t, each with one of next behind it.
func (t texts) then(next texts) texts {
	if t.none || next.none {
		return texts{none: true}
	}
	if t.least == 0 {
		t.first = bytes256.Or(t.first, next.first)
	}
	t.endless = t.endless || next.endless
	t.least = plus(t.least, next.least)
	t.most = plus(t.most, next.most)
	return t
}

// or has the texts of both.
func (t texts) or(other texts) texts {
	if t.none {
		return other
	}
	if other.none {
		return t
	}
	t.endless = t.endless || other.endless
	t.first = bytes256.Or(t.first, other.first)
	t.least = min(t.least, other.least)
	t.most = max(t.most, other.most)
	return t
}

// repeated has the texts of t, at least so many and at most so many behind one another.
func (t texts) repeated(least, most int) texts {
	if most == 0 || t.none && least == 0 {
		return texts{}
	}
	if t.none {
		return t
	}
	t.least = times(least, t.least)
	if most == many {
		// However many empty texts there are, they are no longer than one.
		t.endless = t.endless || t.most > 0
	} else {
		t.most = times(most, t.most)
	}
	return t
}

func (t texts) length() (least, most int) {
	switch {
	case t.none:
		return -1, -1
	case t.endless:
		return t.least, -1
	}
	return t.least, t.most
}

// plus and times stop at the greatest int: a length that no int holds mustn't come out as a short one, or as none.

func plus(a, b int) int {
	if a > math.MaxInt-b {
		return math.MaxInt
	}
	return a + b
}

func times(often, n int) int {
	if often > 0 && n > math.MaxInt/often {
		return math.MaxInt
	}
	return often * n
}
