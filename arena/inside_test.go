package arena

import (
	"testing"

	"sieve/api"
)

// No call can leave a free place unclean, so the test writes past them.
func TestCleanLooksAtEachFreePlace(t *testing.T) {
	a := New(nil, 16)
	for range 4 {
		if _, e := a.Alloc(3); e != api.OK {
			t.Fatal(e)
		}
	}
	a.Free(2)
	a.Free(4)
	for at := range 12 {
		a.cells[at] = -1
		had := at < 3 || at >= 6 && at < 9
		if a.Clean() != had {
			t.Errorf("place %d: got %v, want %v", at, a.Clean(), had)
		}
		a.cells[at] = 0
		if !a.Clean() {
			t.Errorf("place %d: not clean again", at)
		}
	}
}

func TestClearedPlaces(t *testing.T) {
	a := New(nil, 16)
	for id := 1; id <= 3; id++ {
		a.Alloc(4)
		for i := range 4 {
			a.Set(id, i, id)
		}
	}
	a.Free(2)
	for at, v := range a.cells {
		want := []int{1, 1, 1, 1, 0, 0, 0, 0, 3, 3, 3, 3}[at]
		if v != want {
			t.Errorf("place %d: got %d, want %d", at, v, want)
		}
	}
	a.Wipe()
	for at, v := range a.cells {
		if v != 0 {
			t.Errorf("place %d: got %d after Wipe", at, v)
		}
	}
}

// A tree that is all free, or all had, keeps no halves, lest it grow as long as the arena is used.
func TestStretchKeepsNoHalvesOfOneKind(t *testing.T) {
	s := newStretch(100)
	for i := range 100 {
		s.mark(i, i+1, false)
	}
	if s.left != nil || s.most != 0 {
		t.Error("all had", s.most)
	}
	for i := range 100 {
		s.mark((37*i)%100, (37*i)%100+1, true)
	}
	if s.left != nil || s.most != 100 {
		t.Error("all free", s.most)
	}
}
