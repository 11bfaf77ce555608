package sample

import "sieve/api"

// Roomy is the list, and each one within it, with spare room behind it that isn't blank.
func Roomy(list []api.Node) []api.Node {
	row := make([]api.Node, 0, len(list)+2)
	for _, n := range list {
		n.Subs = Roomy(n.Subs)
		row = append(row, n)
	}
	return append(row, api.Node{Kind: 9, Min: 3}, api.Node{Kind: 7})[:len(list)]
}

// Memory has all that a list held, its spare room too.
type Memory struct {
	long  int
	nodes []api.Node
	below []Memory
}

// MemoryOf is what the list holds now.
func MemoryOf(list []api.Node) Memory {
	m := Memory{long: len(list)}
	for _, n := range list[:cap(list)] {
		m.below = append(m.below, MemoryOf(n.Subs))
		m.nodes = append(m.nodes, n)
	}
	return m
}

// Is: does the list still hold that?
func (m Memory) Is(list []api.Node) bool {
	if len(list) != m.long || cap(list) != len(m.nodes) {
		return false
	}
	for i, n := range list[:cap(list)] {
		old := m.nodes[i]
		if n.Kind != old.Kind || n.Set != old.Set || n.Min != old.Min || n.Max != old.Max || !m.below[i].Is(n.Subs) {
			return false
		}
	}
	return true
}

// Places has where nodes stand.
type Places struct{ met map[*api.Node]int }

// Add adds those of all nodes that a list holds, its spare room too, and tells whether each was new.
func (p *Places) Add(list []api.Node) bool {
	if p.met == nil {
		p.met = map[*api.Node]int{}
	}
	fresh := true
	list = list[:cap(list)]
	for i := range list {
		p.met[&list[i]]++
		fresh = p.met[&list[i]] == 1 && fresh
		fresh = p.Add(list[i].Subs) && fresh
	}
	return fresh
}
