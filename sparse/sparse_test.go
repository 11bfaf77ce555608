package sparse_test

import (
	"math"
	"slices"
	"testing"

	"sieve/api"
	"sieve/meter"
	"sieve/sparse"
)

const most = 1 << 16

// odd are numbers that are in no set, and places that no set has.
var odd = []int{-1, -2, -most, math.MinInt, math.MinInt + 1, most, most + 1, 1 << 32, 1<<32 + 1, math.MaxInt}

// made is a set that there must be.
func made(t *testing.T, m *meter.Meter, n int) *sparse.Set {
	t.Helper()
	s, e := sparse.New(m, n)
	if s == nil || e != api.OK {
		t.Fatalf("New(%d): got %v, %d", n, s, e)
	}
	return s
}

// refused asks for a set that there can't be.
func refused(t *testing.T, m *meter.Meter, n int, want api.Errno) {
	t.Helper()
	if s, e := sparse.New(m, n); s != nil || e != want {
		t.Errorf("New(%d): got %v, %d, want none, %d", n, s, e, want)
	}
}

func add(t *testing.T, s *sparse.Set, want bool, xs ...int) {
	t.Helper()
	for _, x := range xs {
		if got := s.Add(x); got != want {
			t.Errorf("Add(%d): got %v, want %v", x, got, want)
		}
	}
}

func has(t *testing.T, s *sparse.Set, want bool, xs ...int) {
	t.Helper()
	for _, x := range xs {
		if got := s.Has(x); got != want {
			t.Errorf("Has(%d): got %v, want %v", x, got, want)
		}
	}
}

// holds looks at all that a set tells: these numbers, in this order.
func holds(t *testing.T, s *sparse.Set, want ...int) {
	t.Helper()
	if got := s.List(); !slices.Equal(got, want) {
		t.Errorf("List: got %v, want %v", got, want)
	}
	if got := s.Sorted(); !slices.Equal(got, slices.Sorted(slices.Values(want))) {
		t.Errorf("Sorted: got %v of %v", got, want)
	}
	if got := s.Len(); got != len(want) {
		t.Errorf("Len: got %d, want %d", got, len(want))
	}
	for i, x := range want {
		if got := s.At(i); got != x {
			t.Errorf("At(%d): got %d, want %d", i, got, x)
		}
	}
	for _, i := range append([]int{len(want), len(want) + 1}, odd...) {
		if got := s.At(i); got != -1 {
			t.Errorf("At(%d) of %d: got %d, want -1", i, len(want), got)
		}
	}
	has(t, s, true, want...)
	has(t, s, false, odd...)
}

// nothing looks at a set over 0.
func nothing(t *testing.T, s *sparse.Set) {
	t.Helper()
	holds(t, s)
	add(t, s, false, odd...)
	for x := range 20 {
		add(t, s, false, x)
		has(t, s, false, x)
	}
	s.Clear()
	holds(t, s)
}

// uses looks at a meter: the cells used, and what it noted.
func uses(t *testing.T, m *meter.Meter, want int, e api.Errno) {
	t.Helper()
	if used, _, _ := m.Cells(); used != want || m.Err() != e {
		t.Errorf("meter: got %d, %d, want %d, %d", used, m.Err(), want, e)
	}
}

func TestDocExample(t *testing.T) {
	s := made(t, meter.New(10, 0), 5)
	add(t, s, true, 3, 1)
	add(t, s, false, 3)
	holds(t, s, 3, 1)
	s.Clear()
	holds(t, s)
	has(t, s, false, 3)
}

// P3.1.
func TestNewSizes(t *testing.T) {
	for _, n := range []int{math.MinInt, math.MinInt + 1, -most, -2, -1, most + 1, 2 * most, 1 << 32, math.MaxInt/2 + 1, math.MaxInt} {
		m := meter.New(1<<20, 0)
		refused(t, m, n, api.ErrArg)
		refused(t, nil, n, api.ErrArg)
		uses(t, m, 0, api.OK)
	}
	for _, n := range []int{0, 1, 2, 3, 20, 255, 256, most - 1, most} {
		m := meter.New(1<<20, 0)
		for i, s := range []*sparse.Set{made(t, m, n), made(t, nil, n)} {
			holds(t, s)
			add(t, s, false, n, n+1, -1)
			has(t, s, false, n, n-1, 0)
			if n > 0 {
				add(t, s, true, n-1)
				add(t, s, false, n-1)
				holds(t, s, n-1)
			}
			uses(t, m, 2*n, api.OK)
			if i == 1 {
				add(t, s, n > 1, 0)
			}
		}
	}
}

func TestNewTakesTwiceN(t *testing.T) {
	for _, c := range []struct {
		cells, n int
		want     api.Errno
	}{
		{0, 0, api.OK}, {0, 1, api.ErrMem}, {1, 1, api.ErrMem}, {2, 1, api.OK}, {3, 1, api.OK}, {3, 2, api.ErrMem},
		{9, 5, api.ErrMem}, {10, 5, api.OK}, {10, 6, api.ErrMem},
		{2*most - 1, most, api.ErrMem}, {2 * most, most, api.OK}, {most, most, api.ErrMem},
		{0, -1, api.ErrArg}, {0, most + 1, api.ErrArg},
	} {
		m := meter.New(c.cells, 0)
		if c.want == api.OK {
			holds(t, made(t, m, c.n))
			uses(t, m, 2*c.n, api.OK)
			continue
		}
		refused(t, m, c.n, c.want)
		noted := c.want
		if noted == api.ErrArg {
			noted = api.OK
		}
		uses(t, m, 0, noted)
	}
}

func TestMeterRefuses(t *testing.T) {
	m := meter.New(11, 0)
	a := made(t, m, 3)
	add(t, a, true, 2)
	refused(t, m, 3, api.ErrMem)
	uses(t, m, 6, api.ErrMem)
	m.Begin(0)
	b := made(t, m, 2)
	uses(t, m, 10, api.OK)
	refused(t, m, 1, api.ErrMem)
	made(t, m, 0)
	uses(t, m, 10, api.ErrMem)
	holds(t, a, 2)
	holds(t, b)
	a.Drop(m)
	m.Begin(0)
	made(t, m, 3)
	uses(t, m, 10, api.OK)
}

func TestAdd(t *testing.T) {
	s := made(t, nil, 6)
	var want []int
	for _, x := range []int{5, 0, 3, 1, 4, 2} {
		has(t, s, false, x)
		add(t, s, true, x)
		want = append(want, x)
		holds(t, s, want...)
		add(t, s, false, want...)
		add(t, s, false, 6, 7)
		add(t, s, false, odd...)
		holds(t, s, want...)
		for y := range 6 {
			has(t, s, slices.Contains(want, y), y)
		}
	}
}

// The first number, and the first place, are those that a row of noughts tells of.
func TestFirstNumberAtTheFirstPlace(t *testing.T) {
	s := made(t, nil, 3)
	has(t, s, false, 0)
	add(t, s, true, 0)
	has(t, s, false, 1, 2)
	holds(t, s, 0)
	s.Clear()
	has(t, s, false, 0)
	add(t, s, true, 1)
	has(t, s, false, 0, 2)
	holds(t, s, 1)
	add(t, s, true, 0)
	holds(t, s, 1, 0)
}

func TestSorted(t *testing.T) {
	s := made(t, nil, 300)
	var want []int
	for i := range 300 {
		x := 299 - (7*i)%300
		add(t, s, true, x)
		want = append(want, x)
	}
	for i, x := range s.Sorted() {
		if x != i {
			t.Fatalf("place %d: got %d", i, x)
		}
	}
	holds(t, s, want...)
}

func TestGreatestSet(t *testing.T) {
	m := meter.New(2*most, 0)
	s := made(t, m, most)
	want := make([]int, 0, most)
	for i := range most {
		want = append(want, (40503*i+most/2)%most)
	}
	for round := range 3 {
		for _, x := range want {
			if s.Has(x) || !s.Add(x) || s.Add(x) || !s.Has(x) {
				t.Fatal(round, x)
			}
		}
		holds(t, s, want...)
		s.Clear()
		holds(t, s)
		slices.Reverse(want)
	}
	uses(t, m, 2*most, api.OK)
	s.Drop(m)
	uses(t, m, 0, api.OK)
}

// What was answered is the asker's own: no list tells of another one, or of the set.
func TestListsAreNewMemory(t *testing.T) {
	s := made(t, nil, 5)
	add(t, s, true, 3, 1, 4)
	lists := [][]int{s.List(), s.Sorted(), s.List(), s.Sorted()}
	for i, list := range lists {
		for k := range list {
			list[k] = 10 * i
		}
		list = append(list, 7, 7, 7, 7)
		clear(list[:cap(list)])
		holds(t, s, 3, 1, 4)
		for _, other := range lists[i+1:] {
			if !slices.Contains(other, 4) || !slices.Contains(other, 3) || !slices.Contains(other, 1) {
				t.Errorf("list %d told of another one: %v", i, other)
			}
		}
	}
	held, sorted := s.List(), s.Sorted()
	add(t, s, true, 0)
	s.Clear()
	add(t, s, true, 2, 0, 4, 1, 3)
	if !slices.Equal(held, []int{3, 1, 4}) || !slices.Equal(sorted, []int{1, 3, 4}) {
		t.Errorf("the set told of a list: %v, %v", held, sorted)
	}
	empty := made(t, nil, 5)
	for _, list := range [][]int{empty.List(), empty.Sorted()} {
		list = append(list, 1, 2, 3)
		clear(list[:cap(list)])
		holds(t, empty)
	}
}

func TestSetsAreApart(t *testing.T) {
	m := meter.New(20, 0)
	a, b := made(t, m, 5), made(t, m, 5)
	add(t, a, true, 3, 1)
	holds(t, b)
	add(t, b, true, 1, 0, 3)
	a.Clear()
	holds(t, b, 1, 0, 3)
	a.Drop(m)
	holds(t, b, 1, 0, 3)
	uses(t, m, 10, api.OK)
}

// P3.3: whatever was in it, a cleared set is told from a new one by nothing.
func TestClearedAsNew(t *testing.T) {
	const n = 4
	for _, before := range orders(n) {
		for _, behind := range orders(n) {
			s := made(t, nil, n)
			add(t, s, true, before...)
			s.Clear()
			holds(t, s)
			has(t, s, false, 0, 1, 2, 3)
			for i, x := range behind {
				has(t, s, false, behind[i:]...)
				add(t, s, true, x)
				add(t, s, false, x)
				has(t, s, false, behind[i+1:]...)
			}
			holds(t, s, behind...)
		}
	}
}

// orders are all lists of numbers below n, each at most once.
func orders(n int) [][]int {
	all := [][]int{nil}
	for from := 0; from < len(all); from++ {
		for x := range n {
			if !slices.Contains(all[from], x) {
				all = append(all, append(slices.Clone(all[from]), x))
			}
		}
	}
	return all
}

func TestClearAgain(t *testing.T) {
	m := meter.New(10, 0)
	s := made(t, m, 5)
	s.Clear()
	s.Clear()
	holds(t, s)
	add(t, s, true, 4, 0)
	s.Clear()
	s.Clear()
	holds(t, s)
	add(t, s, true, 0, 4, 1)
	holds(t, s, 0, 4, 1)
	uses(t, m, 10, api.OK)
	m.Give(10)
	s.Clear()
	uses(t, m, 0, api.OK)
}

// A set that is cleared again and again costs what is added to it, not what it is over.
func TestManyClears(t *testing.T) {
	s := made(t, nil, most)
	for i := range 1 << 20 {
		x := i % most
		if s.Len() != 0 || s.Has(x) || !s.Add(x) || s.At(0) != x {
			t.Fatal(i)
		}
		s.Clear()
	}
	cost := testing.AllocsPerRun(100, func() {
		s.Add(5)
		s.Add(most - 1)
		s.Has(5)
		s.At(1)
		s.Clear()
	})
	if cost != 0 {
		t.Errorf("adding and clearing took new memory, %v times", cost)
	}
}

// P3.2.
func TestDrop(t *testing.T) {
	m := meter.New(100, 0)
	s := made(t, m, 5)
	add(t, s, true, 3, 1)
	m.Take(30)
	s.Drop(m)
	uses(t, m, 30, api.OK)
	nothing(t, s)
	for range 3 {
		s.Drop(m)
		uses(t, m, 30, api.OK)
		nothing(t, s)
	}
	if _, high, _ := m.Cells(); high != 40 {
		t.Errorf("at most %d were used, want 40", high)
	}
}

func TestDropOfClearedSet(t *testing.T) {
	m := meter.New(10, 0)
	s := made(t, m, 5)
	add(t, s, true, 0, 1, 2, 3, 4)
	s.Clear()
	s.Drop(m)
	uses(t, m, 0, api.OK)
	nothing(t, s)
}

func TestDropOfASetOverNothing(t *testing.T) {
	m := meter.New(10, 0)
	s := made(t, m, 0)
	m.Take(4)
	nothing(t, s)
	s.Drop(m)
	s.Drop(nil)
	s.Drop(m)
	uses(t, m, 4, api.OK)
	nothing(t, s)
}

func TestDropWithoutMeter(t *testing.T) {
	m := meter.New(20, 0)
	s := made(t, m, 5)
	add(t, s, true, 2)
	s.Drop(nil)
	nothing(t, s)
	uses(t, m, 10, api.OK)
	// The first time is over.
	s.Drop(m)
	uses(t, m, 10, api.OK)
	nothing(t, s)
}

// The meter that is handed to Drop is the one that is given to, whichever was asked before.
func TestDropToTheMeterHandedIn(t *testing.T) {
	a, b := meter.New(20, 0), meter.New(20, 0)
	b.Take(15)
	s := made(t, a, 5)
	s.Drop(b)
	uses(t, a, 10, api.OK)
	uses(t, b, 5, api.OK)
	s.Drop(a)
	uses(t, a, 10, api.OK)
	s = made(t, nil, 2)
	s.Drop(b)
	uses(t, b, 1, api.OK)
}

func TestDropThatTheMeterRefuses(t *testing.T) {
	m := meter.New(20, 0)
	s := made(t, m, 5)
	add(t, s, true, 2)
	m.Give(1)
	s.Drop(m)
	uses(t, m, 9, api.OK)
	nothing(t, s)
	m.Take(11)
	s.Drop(m)
	uses(t, m, 20, api.OK)
}

func TestNilSet(t *testing.T) {
	var s *sparse.Set
	nothing(t, s)
	m := meter.New(20, 0)
	m.Take(10)
	s.Drop(m)
	s.Drop(nil)
	uses(t, m, 10, api.OK)
	nothing(t, s)
}

func TestSetNotMadeByNew(t *testing.T) {
	var s sparse.Set
	nothing(t, &s)
	m := meter.New(20, 0)
	m.Take(10)
	s.Drop(m)
	uses(t, m, 10, api.OK)
	nothing(t, &s)
}
