package ends

import (
	"maps"
	"math/rand"
	"slices"
	"testing"

	"sieve/api"
)

// holds: a set has these places, in no more words than they need.
func holds(t *testing.T, x places, want map[int]int) {
	t.Helper()
	list := slices.Sorted(maps.Keys(want))
	last := -1
	if len(list) > 0 {
		last = list[len(list)-1]
	}
	if !slices.Equal(x.list(), list) || x.last() != last || x.none() != (len(list) == 0) {
		t.Fatalf("got %d, last %d, none %t, want %d", x.list(), x.last(), x.none(), list)
	}
	if x.none() {
		if x.first != 0 || x.words != nil {
			t.Fatal("none have words")
		}
	} else if x.first != list[0]/64 || x.first+len(x.words)-1 != last/64 {
		t.Fatalf("%d has the words from %d, %d of them", list, x.first, len(x.words))
	}
}

// P11.1: sets of places by chance, near one another and far from one another, against maps.
func TestPlaces(t *testing.T) {
	r := rand.New(rand.NewSource(110))
	chance := func() (x places, model map[int]int) {
		model = map[int]int{}
		begin, wide := r.Intn(1+r.Intn(600)), 1+r.Intn(1+r.Intn(300))
		for range r.Intn(8) {
			p := begin + r.Intn(wide)
			if was := len(model); x.add(placeAt(p)) != 1-model[p] || len(model) != was {
				t.Fatalf("%d was new, or wasn't", p)
			}
			model[p] = 1
			holds(t, x, model)
		}
		return x, model
	}
	s := make([]byte, 1000)
	for i := range s {
		s[i] = byte(r.Intn(256))
	}
	for range 20000 {
		x, has := chance()
		y, hasY := chance()
		left := maps.Clone(has)
		maps.DeleteFunc(left, func(p, _ int) bool { return hasY[p] == 1 })
		holds(t, x.without(y), left)
		long := r.Intn(len(s))
		high := map[int]int{}
		for p := range has {
			if p < long && s[p] >= 192 {
				high[p+1] = 1
			}
		}
		holds(t, x.over(api.Set{3: 1<<64 - 1}, string(s[:long])), high)
		holds(t, x, has)
		fresh := y.add(x)
		holds(t, x, has)
		was := len(hasY)
		maps.Copy(hasY, has)
		holds(t, y, hasY)
		if fresh != len(hasY)-was {
			t.Fatalf("%d are new, not %d", len(hasY)-was, fresh)
		}
		y.add(placeAt(r.Intn(2000)))
		holds(t, x, has)
	}
}

// P11.1: what a Rep keeps of its answers is asked no more often than there are places, and is what it would answer else.
func TestKept(t *testing.T) {
	class := api.Node{Kind: api.Class, Set: api.Set{1: 1 << ('a' - 64)}}
	n := api.Node{Kind: api.Rep, Min: 2, Max: 5, Subs: []api.Node{class}}
	s := "aaaaaaaabaaa"
	p := partOf(&n)
	var from places
	for _, at := range []int{7, 0, 9, 3} {
		from.add(placeAt(at))
	}
	want := partOf(&n)
	once := want.ends(s, from).list()
	if !slices.Equal(once, []int{2, 3, 4, 5, 6, 7, 8, 11, 12}) {
		t.Fatal(once)
	}
	for asks := 1; asks < 20; asks++ {
		got := p.ends(s, from)
		if !slices.Equal(got.list(), once) {
			t.Fatalf("asked %d times: got %d", asks, got.list())
		}
		// What is answered may be added to by whoever asked.
		got.add(placeAt(1))
		if kept := len(p.told.ends); kept != 0 && asks <= 4 || kept != 4 && asks > 4 {
			t.Fatalf("asked %d times: %d are kept", asks, kept)
		}
	}
}
