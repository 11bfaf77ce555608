package sample_test

import (
	"math/rand"
	"slices"
	"testing"

	"sieve/api"
	"sieve/ends"
	"sieve/measure"
	"sieve/sample"
	"sieve/show"
)

// The model, and what comes by chance, agree with layers 8, 9 and 11.
func TestEnds(t *testing.T) {
	r := rand.New(rand.NewSource(1))
	draw, right := sample.Draw(r.Intn), 0
	list := sample.Small()
	for i := range 2000 {
		list = append(list, draw.Node(1+i%5, 1+i%20))
	}
	for _, n := range list {
		if !show.Right(n) {
			continue
		}
		right++
		if sample.Size(n) != measure.Size(n) {
			t.Errorf("%s has %d nodes", sample.Name(n), sample.Size(n))
		}
		s := draw.Text("abc\xff", r.Intn(20))
		for from, got := range sample.Ends(n, s) {
			if want, e := ends.All(n, s, from); e != api.OK || !slices.Equal(got, want) {
				t.Errorf("%s of %q from %d: got %d, want %d", sample.Name(n), s, from, got, want)
			}
		}
	}
	if right < 1500 {
		t.Errorf("only %d were right", right)
	}
}

// Whatever is changed in a list is told, its spare room too.
func TestMemory(t *testing.T) {
	for i := range 8 {
		list := sample.Roomy([]api.Node{sample.Class("a"), sample.Cat(sample.Empty(), sample.Class("b"))})
		m := sample.MemoryOf(list)
		if !m.Is(list) {
			t.Error("it isn't told as it is")
		}
		subs := list[1].Subs
		switch i {
		case 0:
			list[0].Kind++
		case 1:
			list[0].Set[3]++
		case 2:
			subs[1].Min++
		case 3:
			subs[:3][2].Max++
		case 4:
			list[:3][2].Kind = 0
		case 5:
			list[1].Subs = subs[:1]
		case 6:
			list[1].Subs = subs[:2:2]
		case 7:
			list = list[:1]
		}
		if m.Is(list) {
			t.Errorf("%d isn't told", i)
		}
	}
}

// What stands in two places is told, its spare room too.
func TestPlaces(t *testing.T) {
	list := sample.Roomy([]api.Node{sample.Class("a"), sample.Cat(sample.Empty(), sample.Class("b"))})
	for _, other := range [][]api.Node{list, list[1:], list[:3][2:], list[1].Subs, list[1].Subs[:4][3:], {sample.Empty(), list[1]}} {
		seen := sample.Places{}
		if !seen.Add(list) || seen.Add(other) {
			t.Error("it isn't told")
		}
	}
	var seen sample.Places
	if seen.Add(sample.Row(list[1], 2)) {
		t.Error("one list in two nodes isn't told")
	}
}
