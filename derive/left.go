package derive

import (
	"sieve/api"
	"sieve/simplify"
)

// Simple expressions come from right ones, whose brackets bound their depth, or are what is left of such ones, which isn't much deeper: so calls within calls do.

// behind is a byte, and how many nodes what is left behind it may have.
type behind struct {
	b    byte
	most int
}

// of is what is left of a simple one. It isn't ok, if that is too great: as what is left of a part goes into what is left of the whole, a part that is too great tells enough.
func (x behind) of(n *api.Node) (left api.Node, ok bool) {
	switch n.Kind {
	case api.Class:
		if n.Set[x.b/64]>>(x.b%64)&1 == 1 {
			return api.Node{Kind: api.Empty}, true
		}
	case api.Cat:
		return x.ofCat(n.Subs)
	case api.Alt:
		return x.ofAlt(n.Subs)
	case api.Rep:
		return x.ofRep(n)
	}
	return nothing(), true
}

// ofCat has all in one Alt that the definition puts into Alt within Alt: they tell the same.
func (x behind) ofCat(list []api.Node) (api.Node, bool) {
	all := sum{most: x.most}
	for i := range list {
		first, ok := x.of(&list[i])
		if ok {
			first, ok = x.followed(first, list[i+1:]...)
		}
		if !ok || !all.add(first) {
			return api.Node{}, false
		}
		if !matchesEmpty(&list[i]) {
			break
		}
	}
	return all.whole()
}

func (x behind) ofAlt(list []api.Node) (api.Node, bool) {
	all := sum{most: x.most}
	for i := range list {
		if left, ok := x.of(&list[i]); !ok || !all.add(left) {
			return api.Node{}, false
		}
	}
	return all.whole()
}

func (x behind) ofRep(n *api.Node) (api.Node, bool) {
	if n.Max == 0 {
		return nothing(), true
	}
	first, ok := x.of(&n.Subs[0])
	if !ok || isNothing(&first) {
		return first, ok
	}
	return x.followed(first, simplify.Rep(n.Subs[0], max(n.Min-1, 0), max(n.Max-1, -1)))
}

// followed is the Cat of what is left of the first one, and of the rest.
func (x behind) followed(first api.Node, rest ...api.Node) (api.Node, bool) {
	if isNothing(&first) {
		// Here, as a long rest isn't gone over for nothing then.
		return first, true
	}
	whole := simplify.Cat(append([]api.Node{first}, rest...)...)
	return whole, size(&whole) <= x.most
}

// sum collects what an Alt is put together of.
type sum struct {
	list        []api.Node
	nodes, most int
}

// add: isn't it too great? Many may be the same, so that only when it is put together it tells; which is done at twice the nodes that it may have then, so that it comes seldom.
func (s *sum) add(n api.Node) (ok bool) {
	if isNothing(&n) {
		return true
	}
	s.list = append(s.list, n)
	s.nodes += size(&n)
	if s.nodes <= 2*s.most {
		return true
	}
	n, ok = s.whole()
	s.list, s.nodes = append(s.list[:0], n), size(&n)
	return ok
}

func (s *sum) whole() (whole api.Node, ok bool) {
	if len(s.list) == 1 {
		return s.list[0], s.nodes <= s.most
	}
	whole = simplify.Alt(s.list...)
	return whole, size(&whole) <= s.most
}

func matchesEmpty(n *api.Node) bool {
	switch n.Kind {
	case api.Empty:
		return true
	case api.Cat:
		for i := range n.Subs {
			if !matchesEmpty(&n.Subs[i]) {
				return false
			}
		}
		return true
	case api.Alt:
		for i := range n.Subs {
			if matchesEmpty(&n.Subs[i]) {
				return true
			}
		}
	case api.Rep:
		return n.Min == 0 || matchesEmpty(&n.Subs[0])
	}
	return false
}

func size(n *api.Node) int {
	nodes := 1
	for i := range n.Subs {
		nodes += size(&n.Subs[i])
	}
	return nodes
}

func isNothing(n *api.Node) bool {
	return n.Kind == api.Class && n.Set == api.Set{}
}

func nothing() api.Node { return api.Node{Kind: api.Class} }
