package sample

import "sieve/api"

// Draw is a number from 0 on, below another one, by chance.
type Draw func(below int) int

// Node is an expression by chance, so deep at most, with numbers so great at most: it is right, if it has few enough brackets.
func (draw Draw) Node(deep, often int) api.Node {
	k := draw(9)
	if deep == 0 {
		k %= 3
	}
	switch {
	case k == 0:
		return []api.Node{Empty(), Class(""), Empty(), Any()}[draw(4)]
	case k < 3:
		return Class([]string{"a", "b", "ab", "c", "bc\xff", "a", "b"}[draw(7)])
	case k < 6:
		least, most := draw.Times(often)
		return Rep(draw.Node(deep-1, often), least, most)
	}
	n := api.Node{Kind: api.Cat + k%2}
	for range 2 + draw(3)/2 {
		n.Subs = append(n.Subs, draw.Node(draw(deep), often))
	}
	n.Subs[draw(len(n.Subs))] = draw.Node(deep-1, often)
	return n
}

// Times is how often, by chance, up to so great numbers.
func (draw Draw) Times(often int) (least, most int) {
	least = draw(2) * draw(often+1)
	switch draw(3) {
	case 0:
		return least, -1
	case 1:
		return least, least
	}
	return least, least + draw(often+1-least)
}

// Text has so many bytes by chance, mostly those that come first.
func (draw Draw) Text(bytes string, long int) string {
	s := make([]byte, long)
	mixed := 1 + draw(len(bytes))
	for i := range s {
		s[i] = bytes[draw(1+draw(mixed))]
	}
	return string(s)
}
