package arena

// stretch: some places in a row, the free ones of them as a tree of halves, so that the least base is found without a look at each region.
type stretch struct {
	size int
	// front, back and most: how many free ones stand in a row at the front, at the back, and anywhere.
	front, back, most int
	// left and right: the halves; nil while the places are all free or all had.
	left, right *stretch
}

// newStretch: all of its places are free.
func newStretch(size int) *stretch {
	s := &stretch{size: size}
	s.fill(true)
	return s
}

// fill: all places are free, or none is.
func (s *stretch) fill(free bool) {
	n := 0
	if free {
		n = s.size
	}
	s.front, s.back, s.most = n, n, n
	s.left, s.right = nil, nil
}

// mark: the places of from to to - 1 are free, or had; from and to may lie outside.
func (s *stretch) mark(from, to int, free bool) {
	if from <= 0 && to >= s.size {
		s.fill(free)
		return
	}
	if s.left == nil {
		s.split()
	}
	half := s.left.size
	if from < half {
		s.left.mark(from, to, free)
	}
	if to > half {
		s.right.mark(from-half, to-half, free)
	}
	s.join()
}

// split: halves that are free, or had, as the whole is.
func (s *stretch) split() {
	half := s.size / 2
	s.left, s.right = newStretch(half), newStretch(s.size-half)
	if s.most == 0 {
		s.left.fill(false)
		s.right.fill(false)
	}
}

// join: the whole as its halves are.
func (s *stretch) join() {
	l, r := s.left, s.right
	s.front, s.back = l.front, r.back
	if l.front == l.size {
		s.front += r.front
	}
	if r.back == r.size {
		s.back += l.back
	}
	s.most = max(l.most, r.most, l.back+r.front)
	if s.most == 0 || s.most == s.size {
		s.left, s.right = nil, nil
	}
}

// first: the least place from which on n are free, n at least 1; false, if there is none.
func (s *stretch) first(n int) (int, bool) {
	if s.most < n {
		return 0, false
	}
	base := 0
	for s.left != nil {
		half := s.left.size
		switch {
		case s.left.most >= n:
			s = s.left
		case s.left.back+s.right.front >= n:
			return base + half - s.left.back, true
		default:
			base += half
			s = s.right
		}
	}
	return base, true
}

// runs: the free places, from and to, in their order, till see has seen enough.
func (s *stretch) runs(see func(from, to int) bool) {
	s.runsFrom(0, see)
}

func (s *stretch) runsFrom(base int, see func(from, to int) bool) bool {
	switch {
	case s.most == 0:
		return true
	case s.left == nil:
		return see(base, base+s.size)
	}
	return s.left.runsFrom(base, see) && s.right.runsFrom(base+s.left.size, see)
}
