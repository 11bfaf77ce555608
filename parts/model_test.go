package parts_test

import (
	"math/rand"
	"testing"

	"sieve/api"
	"sieve/parts"
)

// alike asks by the chapter's own words: does each set have both, or none of them?
func alike(list []api.Set, a, b int) bool {
	for _, s := range list {
		if has(s, a) != has(s, b) {
			return false
		}
	}
	return true
}

// model has the classes, each byte held against one of every class so far.
func model(list []api.Set) (of []api.Set) {
next:
	for b := range 256 {
		for class, a := range of {
			if alike(list, least(a), b) {
				of[class] = sum(a, span(b, b))
				continue next
			}
		}
		of = append(of, span(b, b))
	}
	return of
}

// lists are cuts of all kinds, by chance: few sets and many, long ranges and single bytes, some of them twice.
func lists() (all [][]api.Set) {
	r := rand.New(rand.NewSource(5))
	for range 300 {
		var list []api.Set
		for range r.Intn(12) {
			list = append(list, chance(r))
			if r.Intn(5) == 0 {
				list = append(list, list[r.Intn(len(list))])
			}
		}
		all = append(all, list)
	}
	return all
}

func chance(r *rand.Rand) (a api.Set) {
	switch r.Intn(4) {
	case 0:
		lo := r.Intn(256)
		return span(lo, lo+r.Intn(256-lo))
	case 1:
		for range r.Intn(6) {
			a = sum(a, span(0, 0), span(255, 255), text(string(rune('a'+r.Intn(26)))))
		}
		return a
	case 2:
		b := r.Intn(256)
		return rest(span(b, b))
	}
	return api.Set{r.Uint64(), r.Uint64(), r.Uint64(), r.Uint64()}
}

// P5.1 against the model, and P5.2.
func TestCutsAgainstModel(t *testing.T) {
	for _, list := range lists() {
		p := parts.Cut(list...)
		holds(t, "against the model", p, model(list)...)
		wholeClasses(t, p, list)
		neverJoined(t, p, list)
		partition(t, p)
	}
}

// P5.2: each set by which was cut is the bytes of some classes.
func wholeClasses(t *testing.T, p *parts.Parts, list []api.Set) {
	t.Helper()
	for _, a := range list {
		var got api.Set
		for _, class := range p.Classes(a) {
			got = sum(got, p.Of(class))
		}
		same(t, "the bytes of a set's classes", got, a)
	}
}

// P5.2: of any two classes some set has one and not the other.
func neverJoined(t *testing.T, p *parts.Parts, list []api.Set) {
	t.Helper()
	for i := range p.Len() {
		for j := range i {
			a, _ := p.Sample(i)
			b, _ := p.Sample(j)
			if alike(list, int(a), int(b)) {
				t.Fatalf("classes %d and %d of %x could be joined", j, i, list)
			}
		}
	}
}

// partition: each byte is of one class, and the classes' least bytes rise.
func partition(t *testing.T, p *parts.Parts) {
	t.Helper()
	last, all := -1, 0
	for class := range p.Len() {
		b, _ := p.Sample(class)
		if int(b) <= last {
			t.Fatalf("class %d begins at %d, behind %d", class, b, last)
		}
		last = int(b)
		for b := range 256 {
			if has(p.Of(class), b) {
				all++
			}
		}
	}
	same(t, "bytes of all classes", all, 256)
}

// P5.1: Classes of sets that have nothing to do with the cut.
func TestClassesAgainstModel(t *testing.T) {
	r := rand.New(rand.NewSource(51))
	for _, list := range lists() {
		p := parts.Cut(list...)
		for range 5 {
			a := sum(chance(r), chance(r))
			var want []int
			for class, of := range model(list) {
				if sum(of, a) == a {
					want = append(want, class)
				}
			}
			classes(t, "by chance", p, a, want...)
		}
	}
}
