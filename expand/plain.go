package expand

import "sieve/api"

// opened is a node that is gone through, and how many of its Subs have been asked.
type opened struct {
	node  *api.Node
	asked int
}

// isPlain goes down with the nodes that are open in a row: an expression that comes in may be deeper than calls within calls can go. A node may stand in many places, which is asked once, and in itself, which no plain one does.
func isPlain(whole *api.Node) bool {
	if !fieldsPlain(whole) {
		return false
	}
	row := []opened{{node: whole}}
	met := map[*api.Node]int{} // where in the row a node stands, or stood
	for len(row) > 0 {
		last := &row[len(row)-1]
		if last.asked == len(last.node.Subs) {
			row = row[:len(row)-1]
			continue
		}
		n := &last.node.Subs[last.asked]
		last.asked++
		at, old := met[n]
		switch {
		case !fieldsPlain(n), old && at < len(row) && row[at].node == n:
			return false
		case !old && len(n.Subs) > 0:
			met[n] = len(row)
			row = append(row, opened{node: n})
		}
	}
	return true
}

// fieldsPlain: are a node's own fields as a plain one of its kind has them, whatever its Subs are?
func fieldsPlain(n *api.Node) bool {
	if n.Min != 0 || n.Max != 0 && n.Kind != api.Rep || n.Set != (api.Set{}) && n.Kind != api.Class {
		return false
	}
	switch n.Kind {
	case api.Empty, api.Class:
		return len(n.Subs) == 0
	case api.Cat, api.Alt:
		return len(n.Subs) >= 2
	case api.Rep:
		return n.Max == many && len(n.Subs) == 1
	}
	return false
}
