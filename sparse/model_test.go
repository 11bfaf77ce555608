package sparse_test

import (
	"math/rand"
	"slices"
	"testing"

	"sieve/meter"
	"sieve/sparse"
)

// model is a set over n as the plainest list.
type model struct {
	n    int
	list []int
}

func (m *model) add(x int) bool {
	if x < 0 || x >= m.n || slices.Contains(m.list, x) {
		return false
	}
	m.list = append(m.list, x)
	return true
}

func (m *model) at(i int) int {
	if i < 0 || i >= len(m.list) {
		return -1
	}
	return m.list[i]
}

// step does one thing to both, by chance, and holds what they answer against each other.
func step(t *testing.T, r *rand.Rand, s *sparse.Set, m *model) {
	x := r.Intn(m.n+4) - 2
	switch r.Intn(6) {
	case 0, 1:
		add(t, s, m.add(x), x)
	case 2:
		has(t, s, slices.Contains(m.list, x), x)
	case 3:
		if got, want := s.At(x), m.at(x); got != want {
			t.Errorf("At(%d): got %d, want %d", x, got, want)
		}
	case 4:
		holds(t, s, m.list...)
	case 5:
		if r.Intn(8) == 0 {
			s.Clear()
			m.list = nil
		}
	}
}

func TestAgainstModel(t *testing.T) {
	r := rand.New(rand.NewSource(3))
	for round := range 400 {
		quota, used := r.Intn(100), 0
		shared := meter.New(quota, 0)
		var sets []*sparse.Set
		var models []*model
		for range 400 {
			switch k := r.Intn(20); {
			case k == 0:
				n := r.Intn(20) - 1
				s, e := sparse.New(shared, n)
				if may := n >= 0 && used+2*n <= quota; may != (e == 0) || may != (s != nil) {
					t.Fatalf("round %d: New(%d) at %d of %d: got %v, %d", round, n, used, quota, s, e)
				}
				if s != nil {
					used += 2 * n
					sets, models = append(sets, s), append(models, &model{n: n})
				}
			case len(sets) == 0:
			case k == 1:
				i := r.Intn(len(sets))
				sets[i].Drop(shared)
				used -= 2 * models[i].n
				*models[i] = model{}
			default:
				i := r.Intn(len(sets))
				step(t, r, sets[i], models[i])
			}
			if got, _, _ := shared.Cells(); got != used {
				t.Fatalf("round %d: the meter has %d, want %d", round, got, used)
			}
		}
		for i, s := range sets {
			holds(t, s, models[i].list...)
		}
		if t.Failed() {
			t.Fatal("round", round)
		}
	}
}
