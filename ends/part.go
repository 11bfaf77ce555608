package ends

import "sieve/api"

// part is a node of a right expression: its brackets bound its depth, so that calls within calls do.
type part struct {
	node  *api.Node
	subs  []part
	blank bool  // it matches the empty text
	told  *told // of a Rep alone
}

// told is what a Rep was asked, and what it kept of its answers.
type told struct {
	asks int            // how often it was asked
	from places         // from where
	all  int            // how many places these are
	ends map[int]places // of a place: where the texts end that begin there
}

func partOf(n *api.Node) part {
	p := part{node: n, subs: make([]part, len(n.Subs))}
	for i := range n.Subs {
		p.subs[i] = partOf(&n.Subs[i])
	}
	if n.Kind == api.Rep {
		p.told = &told{ends: map[int]places{}}
	}
	p.blank = p.isBlank()
	return p
}

func (p *part) isBlank() bool {
	switch p.node.Kind {
	case api.Class:
		return false
	case api.Rep:
		return p.least() == 0
	}
	blank := 0
	for i := range p.subs {
		if p.subs[i].blank {
			blank++
		}
	}
	return blank == len(p.subs) || p.node.Kind == api.Alt && blank > 0
}

// least is how often a Rep must be gone through: no time, if its Sub may be empty, as then any number of texts may be empty ones.
func (p *part) least() int {
	if p.subs[0].blank {
		return 0
	}
	return p.node.Min
}

// ends has the places where the part's texts end that begin at any of these.
func (p *part) ends(s string, from places) places {
	if from.none() {
		return from
	}
	switch p.node.Kind {
	case api.Class:
		return from.over(p.node.Set, s)
	case api.Cat:
		for i := range p.subs {
			from = p.subs[i].ends(s, from)
		}
	case api.Alt:
		var to places
		for i := range p.subs {
			to.add(p.subs[i].ends(s, from))
		}
		return to
	case api.Rep:
		return p.asked(s, from)
	}
	return from
}

// asked has a Rep's ends. Within other Reps it may be asked as often as their numbers make, multiplied; so once it was asked more often than there are places from which it was asked, it goes on place by place, and keeps what it finds: it is gone through at most twice for each place.
func (p *part) asked(s string, from places) places {
	p.told.asks++
	p.told.all += p.told.from.add(from)
	if p.told.asks <= p.told.all {
		return p.repeated(s, from)
	}
	var to places
	for _, at := range from.list() {
		known, ok := p.told.ends[at]
		if !ok {
			known = p.repeated(s, placeAt(at))
			p.told.ends[at] = known
		}
		to.add(known)
	}
	return to
}

// repeated goes through a Rep: as often as must be, and then as often as may be, but from those places alone that fewer times didn't reach: from the others nothing new is reached.
func (p *part) repeated(s string, from places) places {
	sub, times := &p.subs[0], 0
	for ; times < p.least(); times++ {
		from = sub.ends(s, from)
	}
	var to places
	to.add(from)
	// A Max of -1 is never reached.
	for ; times != p.node.Max && !from.none(); times++ {
		from = sub.ends(s, from).without(to)
		to.add(from)
	}
	return to
}
