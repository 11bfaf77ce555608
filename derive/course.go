package derive

import "sieve/api"

// mostKept bounds what a course keeps: the nodes of what is left, and the ways from one to the next.
const mostKept = 1 << 18

// course is a way through a text, byte by byte. In a long text the same is left time and again: what was left once is kept, and where it went to by which byte.
type course struct {
	states []state
	at     int            // the number of the state that it is in
	known  map[string]int // the numbers of states, by their keys
	next   map[edge]int   // and where they go to
	kept   int
}

// state is what is left, and whether a match ends there.
type state struct {
	left api.Node
	ends bool
}

type edge struct {
	from int
	b    byte
}

// begin is where nothing of the text is gone over.
func begin(whole api.Node) *course {
	c := &course{known: map[string]int{}, next: map[edge]int{}}
	c.enter(whole)
	return c
}

func (c *course) here() *state {
	return &c.states[c.at]
}

// step goes on by a byte, unless what is left is too great then.
func (c *course) step(b byte) bool {
	way := edge{c.at, b}
	if to, ok := c.next[way]; ok {
		c.at = to
		return true
	}
	left, ok := behind{b, mostNodes}.of(&c.here().left)
	if !ok {
		return false
	}
	if c.kept > mostKept {
		*c = *begin(left)
		return true
	}
	c.enter(left)
	c.next[way] = c.at
	c.kept++
	return true
}

// enter goes to the state of what is left, a new one, if there is none.
func (c *course) enter(left api.Node) {
	key := string(keyed(nil, &left))
	at, ok := c.known[key]
	if !ok {
		at = len(c.states)
		c.states = append(c.states, state{left, matchesEmpty(&left)})
		c.known[key] = at
		c.kept += size(&left)
	}
	c.at = at
}

// keyed has bytes behind, which are the same of those that are the same alone.
func keyed(key []byte, n *api.Node) []byte {
	for _, w := range [...]uint64{uint64(n.Kind), uint64(n.Min), uint64(n.Max), n.Set[0], n.Set[1], n.Set[2], n.Set[3], uint64(len(n.Subs))} {
		for ; w >= 128; w >>= 7 {
			key = append(key, byte(w)|128)
		}
		key = append(key, byte(w))
	}
	for i := range n.Subs {
		key = keyed(key, &n.Subs[i])
	}
	return key
}
