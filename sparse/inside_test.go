package sparse

import "testing"

// No call adds more than a row has room for, so the test grows the first row past them: the second one mustn't notice.
func TestRowsOfOneSlice(t *testing.T) {
	s, _ := New(nil, 3)
	if cap(s.order) != 3 || len(s.places) != 3 {
		t.Fatal(cap(s.order), len(s.places))
	}
	for _, x := range []int{2, 0, 1} {
		s.Add(x)
	}
	_ = append(s.order, 9, 9, 9)
	for x, want := range []int{1, 2, 0} {
		if s.places[x] != want {
			t.Errorf("place of %d: got %d, want %d", x, s.places[x], want)
		}
	}
	if cost := testing.AllocsPerRun(100, func() { s, _ = New(nil, 3) }); cost > 2 {
		t.Errorf("a set and its rows took new memory %v times, want 2", cost)
	}
}

// Clear leaves what was told of places, so any leftovers must count for nothing.
func TestLeftoversCountForNothing(t *testing.T) {
	s, _ := New(nil, 4)
	for code := range 4 * 4 * 4 * 4 {
		for x := range 4 {
			s.places[x] = code >> (2 * x) & 3
		}
		s.Clear()
		for x := range 4 {
			if s.Has(x) || !s.Add(x) || s.Add(x) || s.At(x) != x {
				t.Fatal(code, x)
			}
		}
	}
}
