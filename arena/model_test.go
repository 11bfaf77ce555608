package arena_test

import (
	"math/rand"
	"testing"

	"sieve/api"
	"sieve/arena"
	"sieve/meter"
)

// model is an arena place by place, with its owner's number and what it holds.
type model struct {
	owner, held []int
	last, used  int
	quota       int
}

func (m *model) base(n int) int {
	for b := 0; b+n <= len(m.owner); b++ {
		free := 0
		for free < n && m.owner[b+free] == 0 {
			free++
		}
		if free == n {
			return b
		}
	}
	return -1
}

func (m *model) alloc(n int) (int, api.Errno) {
	if n < 1 {
		return 0, api.ErrArg
	}
	b := m.base(n)
	if b < 0 || m.quota >= 0 && m.used+n > m.quota {
		return 0, api.ErrMem
	}
	m.last++
	m.used += n
	for i := range n {
		m.owner[b+i] = m.last
	}
	return m.last, api.OK
}

// places: the base of a region, and how many places it has.
func (m *model) places(id int) (base, n int) {
	base, n = -1, -1
	for at, o := range m.owner {
		if id < 1 || o != id {
			continue
		}
		if base < 0 {
			base, n = at, 0
		}
		n++
	}
	return base, n
}

func (m *model) free(id int) api.Errno {
	b, n := m.places(id)
	if b < 0 {
		return api.ErrNone
	}
	for i := range n {
		m.owner[b+i], m.held[b+i] = 0, 0
	}
	m.used -= n
	return api.OK
}

func (m *model) at(id, i int) (int, api.Errno) {
	b, n := m.places(id)
	if b < 0 {
		return 0, api.ErrNone
	}
	if i < 0 || i >= n {
		return 0, api.ErrRange
	}
	return b + i, api.OK
}

func (m *model) set(id, i, v int) api.Errno {
	at, e := m.at(id, i)
	if e == api.OK {
		m.held[at] = v
	}
	return e
}

func (m *model) get(id, i int) (int, api.Errno) {
	at, e := m.at(id, i)
	if e != api.OK {
		return 0, e
	}
	return m.held[at], api.OK
}

// play does one call of both, and tells whether they answer alike.
func play(r *rand.Rand, a *arena.Arena, m *model) bool {
	id := m.last + 2 - r.Intn(min(m.last, 12)+3)
	switch n := r.Intn(40); {
	case n < 12:
		size := r.Intn(len(m.owner)/3+3) - 1
		got, e := a.Alloc(size)
		want, we := m.alloc(size)
		return got == want && e == we
	case n < 20:
		return a.Free(id) == m.free(id)
	case n < 28:
		i, v := r.Intn(8)-1, r.Intn(9)-4
		return a.Set(id, i, v) == m.set(id, i, v)
	case n < 39:
		i := r.Intn(8) - 1
		got, e := a.Get(id, i)
		want, we := m.get(id, i)
		return got == want && e == we
	}
	if r.Intn(4) == 0 {
		a.Wipe()
		for i := range m.last + 1 {
			m.free(i)
		}
	}
	return true
}

func same(a *arena.Arena, k *meter.Meter, m *model) bool {
	for id := m.last - 14; id <= m.last+1; id++ {
		b, n := m.places(id)
		if a.Base(id) != b || a.Len(id) != n {
			return false
		}
	}
	used, _, _ := k.Cells()
	return a.Left() == len(m.owner)-m.used && a.Clean() && (k == nil || used == m.used)
}

func TestAgainstPlaceByPlace(t *testing.T) {
	r := rand.New(rand.NewSource(2))
	for round := range 300 {
		size := r.Intn(40)
		m := &model{owner: make([]int, size), held: make([]int, size), quota: -1}
		var k *meter.Meter
		if round%2 == 0 {
			m.quota = size/2 + r.Intn(size+1)
			k = meter.New(m.quota, 0)
		}
		a := arena.New(k, size)
		for step := range 200 {
			if !play(r, a, m) || !same(a, k, m) {
				t.Fatalf("round %d, step %d, size %d", round, step, size)
			}
		}
	}
}
