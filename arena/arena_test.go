package arena_test

import (
	"math"
	"slices"
	"testing"

	"sieve/api"
	"sieve/arena"
	"sieve/meter"
)

const most = 1 << 20

// alloc asks for a region that there must be, at a base.
func alloc(t *testing.T, a *arena.Arena, n, wantID, wantBase int) {
	t.Helper()
	id, e := a.Alloc(n)
	if id != wantID || e != api.OK {
		t.Fatalf("Alloc(%d): got %d, %d, want %d, OK", n, id, e, wantID)
	}
	if l, b := a.Len(id), a.Base(id); l != n || b != wantBase {
		t.Fatalf("region %d: got %d at %d, want %d at %d", id, l, b, n, wantBase)
	}
}

// refuse asks for a region that there can't be.
func refuse(t *testing.T, a *arena.Arena, n int, want api.Errno) {
	t.Helper()
	left := a.Left()
	if id, e := a.Alloc(n); id != 0 || e != want {
		t.Errorf("Alloc(%d): got %d, %d, want 0, %d", n, id, e, want)
	}
	if a.Left() != left {
		t.Errorf("Alloc(%d): left %d, then %d", n, left, a.Left())
	}
}

func free(t *testing.T, a *arena.Arena, ids ...int) {
	t.Helper()
	for _, id := range ids {
		if e := a.Free(id); e != api.OK {
			t.Errorf("Free(%d): got %d", id, e)
		}
	}
}

func set(t *testing.T, a *arena.Arena, id, i, v int, want api.Errno) {
	t.Helper()
	if e := a.Set(id, i, v); e != want {
		t.Errorf("Set(%d, %d, %d): got %d, want %d", id, i, v, e, want)
	}
}

func get(t *testing.T, a *arena.Arena, id, i, v int, want api.Errno) {
	t.Helper()
	if got, e := a.Get(id, i); got != v || e != want {
		t.Errorf("Get(%d, %d): got %d, %d, want %d, %d", id, i, got, e, v, want)
	}
}

// gone looks that there is no such region.
func gone(t *testing.T, a *arena.Arena, ids ...int) {
	t.Helper()
	for _, id := range ids {
		if l, b := a.Len(id), a.Base(id); l != -1 || b != -1 {
			t.Errorf("region %d: got %d at %d, want none", id, l, b)
		}
		for _, i := range []int{0, -1, most, math.MaxInt, math.MinInt} {
			set(t, a, id, i, 1, api.ErrNone)
			get(t, a, id, i, 0, api.ErrNone)
		}
		if e := a.Free(id); e != api.ErrNone {
			t.Errorf("Free(%d): got %d, want ErrNone", id, e)
		}
	}
}

func left(t *testing.T, a *arena.Arena, want int) {
	t.Helper()
	if got := a.Left(); got != want {
		t.Errorf("Left: got %d, want %d", got, want)
	}
	if !a.Clean() {
		t.Error("not clean")
	}
}

// uses looks at a meter: the cells used, and what it noted.
func uses(t *testing.T, m *meter.Meter, want int, e api.Errno) {
	t.Helper()
	if used, _, _ := m.Cells(); used != want || m.Err() != e {
		t.Errorf("meter: got %d, %d, want %d, %d", used, m.Err(), want, e)
	}
}

func TestDocExample(t *testing.T) {
	a := arena.New(meter.New(10, 0), 10)
	alloc(t, a, 4, 1, 0)
	alloc(t, a, 4, 2, 4)
	free(t, a, 1)
	refuse(t, a, 5, api.ErrMem)
	alloc(t, a, 3, 3, 0)
	left(t, a, 3)
}

func TestNewSizes(t *testing.T) {
	for _, c := range []struct{ size, want int }{
		{math.MinInt, 0}, {-1, 0}, {0, 0}, {1, 1}, {2, 2}, {3, 3}, {10, 10},
		{most - 1, most - 1}, {most, most}, {most + 1, most}, {math.MaxInt, most},
	} {
		a := arena.New(nil, c.size)
		left(t, a, c.want)
		gone(t, a, 0, 1)
		refuse(t, a, c.want+1, api.ErrMem)
		if c.want == 0 {
			continue
		}
		alloc(t, a, c.want, 1, 0)
		left(t, a, 0)
		refuse(t, a, 1, api.ErrMem)
		get(t, a, 1, 0, 0, api.OK)
		set(t, a, 1, c.want-1, 7, api.OK)
		get(t, a, 1, c.want-1, 7, api.OK)
		get(t, a, 1, c.want, 0, api.ErrRange)
		free(t, a, 1)
		left(t, a, c.want)
	}
}

func TestAllocOfOddNumbers(t *testing.T) {
	m := meter.New(10, 0)
	a := arena.New(m, 10)
	for _, n := range []int{0, -1, -10, math.MinInt} {
		refuse(t, a, n, api.ErrArg)
	}
	for _, n := range []int{11, most, most + 1, math.MaxInt} {
		refuse(t, a, n, api.ErrMem)
	}
	uses(t, m, 0, api.OK)
	alloc(t, a, 10, 1, 0)
	refuse(t, a, 0, api.ErrArg)
	refuse(t, a, -1, api.ErrArg)
	refuse(t, a, math.MaxInt, api.ErrMem)
	uses(t, m, 10, api.OK)
	left(t, a, 0)
}

func TestNoRoomAsksNoMeter(t *testing.T) {
	m := meter.New(5, 0)
	a := arena.New(m, 10)
	alloc(t, a, 5, 1, 0)
	refuse(t, a, 6, api.ErrMem)
	uses(t, m, 5, api.OK)
	refuse(t, a, 5, api.ErrMem)
	uses(t, m, 5, api.ErrMem)
	left(t, a, 5)
}

func TestMeterRefuses(t *testing.T) {
	m := meter.New(6, 0)
	a := arena.New(m, 10)
	refuse(t, a, 7, api.ErrMem)
	uses(t, m, 0, api.ErrMem)
	left(t, a, 10)
	m.Begin(0)
	alloc(t, a, 4, 1, 0)
	set(t, a, 1, 3, 8, api.OK)
	refuse(t, a, 3, api.ErrMem)
	uses(t, m, 4, api.ErrMem)
	gone(t, a, 2)
	left(t, a, 6)
	get(t, a, 1, 3, 8, api.OK)
	m.Begin(0)
	alloc(t, a, 2, 2, 4)
	refuse(t, a, 1, api.ErrMem)
	uses(t, m, 6, api.ErrMem)
	free(t, a, 1)
	uses(t, m, 2, api.ErrMem)
	m.Begin(0)
	alloc(t, a, 4, 3, 0)
	uses(t, m, 6, api.OK)
	left(t, a, 4)
}

func TestNilMeter(t *testing.T) {
	a := arena.New(nil, 10)
	alloc(t, a, 10, 1, 0)
	refuse(t, a, 1, api.ErrMem)
	free(t, a, 1)
	alloc(t, a, 9, 2, 0)
	alloc(t, a, 1, 3, 9)
	a.Wipe()
	left(t, a, 10)
}

func TestLeastBase(t *testing.T) {
	a := arena.New(nil, 20)
	for id, n := range []int{1, 3, 1, 2, 1, 5, 1, 2, 4} {
		alloc(t, a, n, id+1, []int{0, 1, 4, 5, 7, 8, 13, 14, 16}[id])
	}
	free(t, a, 2, 4, 6, 8)
	left(t, a, 12)
	// Free are 3 at 1, 2 at 5, 5 at 8, 2 at 14: the first that is great enough, not the tightest.
	alloc(t, a, 2, 10, 1)
	alloc(t, a, 2, 11, 5)
	alloc(t, a, 2, 12, 8)
	alloc(t, a, 1, 13, 3)
	refuse(t, a, 4, api.ErrMem)
	alloc(t, a, 3, 14, 10)
	alloc(t, a, 2, 15, 14)
	left(t, a, 0)
}

func TestNeighboursJoin(t *testing.T) {
	for _, order := range [][]int{{2, 3, 4}, {2, 4, 3}, {3, 2, 4}, {3, 4, 2}, {4, 2, 3}, {4, 3, 2}} {
		a := arena.New(nil, 11)
		for id, n := range []int{1, 3, 3, 3, 1} {
			alloc(t, a, n, id+1, []int{0, 1, 4, 7, 10}[id])
		}
		for i, id := range order {
			free(t, a, id)
			left(t, a, 3*i+3)
			if i < 2 {
				refuse(t, a, 7, api.ErrMem)
			}
		}
		refuse(t, a, 10, api.ErrMem)
		alloc(t, a, 9, 6, 1)
		left(t, a, 0)
	}
}

func TestNumbersNeverComeAgain(t *testing.T) {
	a := arena.New(meter.New(8, 0), 10)
	alloc(t, a, 2, 1, 0)
	free(t, a, 1)
	alloc(t, a, 2, 2, 0)
	refuse(t, a, 0, api.ErrArg)
	refuse(t, a, 9, api.ErrMem)
	refuse(t, a, 7, api.ErrMem)
	alloc(t, a, 2, 3, 2)
	a.Wipe()
	gone(t, a, 1, 2, 3)
	alloc(t, a, 8, 4, 0)
	gone(t, a, 1, 2, 3, 5)
}

func TestFree(t *testing.T) {
	m := meter.New(20, 0)
	a := arena.New(m, 10)
	alloc(t, a, 3, 1, 0)
	alloc(t, a, 4, 2, 3)
	for i := range 3 {
		set(t, a, 1, i, 10+i, api.OK)
		set(t, a, 2, i, 20+i, api.OK)
	}
	set(t, a, 2, 3, 23, api.OK)
	gone(t, a, 0, 3, -1, -2, math.MinInt, math.MaxInt, 1<<32+1)
	uses(t, m, 7, api.OK)
	free(t, a, 1)
	uses(t, m, 4, api.OK)
	left(t, a, 6)
	gone(t, a, 1)
	uses(t, m, 4, api.OK)
	for i := range 4 {
		get(t, a, 2, i, 20+i, api.OK)
	}
	alloc(t, a, 3, 3, 0)
	for i := range 3 {
		get(t, a, 3, i, 0, api.OK)
	}
	gone(t, a, 1)
	free(t, a, 2, 3)
	uses(t, m, 0, api.OK)
	left(t, a, 10)
}

func TestSetAndGet(t *testing.T) {
	a := arena.New(nil, 10)
	alloc(t, a, 2, 1, 0)
	alloc(t, a, 3, 2, 2)
	alloc(t, a, 2, 3, 5)
	for i := range 3 {
		get(t, a, 2, i, 0, api.OK)
	}
	for _, v := range []int{1, -1, math.MaxInt, math.MinInt, 0, 1 << 32, 5} {
		for i := range 3 {
			set(t, a, 2, i, v+i, api.OK)
		}
		for i := range 3 {
			get(t, a, 2, i, v+i, api.OK)
		}
	}
	for _, i := range []int{-1, -2, 3, 4, 10, most, math.MaxInt, math.MinInt} {
		set(t, a, 2, i, 9, api.ErrRange)
		get(t, a, 2, i, 0, api.ErrRange)
	}
	for i := range 2 {
		get(t, a, 1, i, 0, api.OK)
		get(t, a, 3, i, 0, api.OK)
	}
	for i := range 3 {
		get(t, a, 2, i, 5+i, api.OK)
	}
}

func TestWipe(t *testing.T) {
	m := meter.New(20, 0)
	a, b := arena.New(m, 10), arena.New(m, 10)
	a.Wipe()
	left(t, a, 10)
	alloc(t, b, 6, 1, 0)
	set(t, b, 1, 5, 50, api.OK)
	for id := range 4 {
		alloc(t, a, 2, id+1, 2*id)
		set(t, a, id+1, 1, 7, api.OK)
	}
	free(t, a, 2)
	uses(t, m, 12, api.OK)
	a.Wipe()
	uses(t, m, 6, api.OK)
	left(t, a, 10)
	left(t, b, 4)
	gone(t, a, 1, 2, 3, 4, 5)
	get(t, b, 1, 5, 50, api.OK)
	alloc(t, a, 10, 5, 0)
	for i := range 10 {
		get(t, a, 5, i, 0, api.OK)
	}
	a.Wipe()
	a.Wipe()
	uses(t, m, 6, api.OK)
	left(t, a, 10)
}

func TestArenasShareAMeter(t *testing.T) {
	m := meter.New(10, 0)
	a, b := arena.New(m, 8), arena.New(m, 8)
	alloc(t, a, 8, 1, 0)
	refuse(t, b, 3, api.ErrMem)
	alloc(t, b, 2, 1, 0)
	free(t, a, 1)
	alloc(t, b, 6, 2, 2)
	uses(t, m, 8, api.ErrMem)
	left(t, a, 8)
	left(t, b, 0)
}

// What the arena took may have been given back by others: its regions go all the same, and it gives back in the order of their numbers.
func TestMeterWasGivenBackByOthers(t *testing.T) {
	for range 20 {
		m := meter.New(10, 0)
		a := arena.New(m, 10)
		for id, n := range []int{1, 2, 3, 4} {
			alloc(t, a, n, id+1, []int{0, 1, 3, 6}[id])
		}
		if !m.Give(6) {
			t.Fatal("Give")
		}
		a.Wipe()
		uses(t, m, 1, api.OK)
		left(t, a, 10)
		gone(t, a, 1, 2, 3, 4)
	}
	m := meter.New(10, 0)
	a := arena.New(m, 10)
	alloc(t, a, 4, 1, 0)
	m.Give(1)
	free(t, a, 1)
	uses(t, m, 3, api.OK)
	left(t, a, 10)
}

func TestNothingIsReadAgain(t *testing.T) {
	const size = 13
	a := arena.New(nil, size)
	for n := 1; n <= size; n++ {
		for {
			id, e := a.Alloc(n)
			if e != api.OK {
				break
			}
			for i := range n {
				get(t, a, id, i, 0, api.OK)
				set(t, a, id, i, -1, api.OK)
			}
		}
		if !a.Clean() {
			t.Error("not clean", n)
		}
		if n%2 == 0 {
			a.Wipe()
			left(t, a, size)
			continue
		}
		for id := range 40 {
			a.Free(id)
		}
		left(t, a, size)
	}
}

func TestNilArena(t *testing.T) {
	var a *arena.Arena
	for _, n := range []int{1, 0, -1, math.MaxInt} {
		refuse(t, a, n, api.ErrNil)
		set(t, a, n, n, n, api.ErrNil)
		get(t, a, n, n, 0, api.ErrNil)
		if e := a.Free(n); e != api.ErrNil {
			t.Errorf("Free: got %d", e)
		}
		if l, b := a.Len(n), a.Base(n); l != -1 || b != -1 {
			t.Errorf("got %d at %d", l, b)
		}
	}
	a.Wipe()
	left(t, a, 0)
}

func TestArenaNotMadeByNew(t *testing.T) {
	var a arena.Arena
	refuse(t, &a, 1, api.ErrMem)
	gone(t, &a, 0, 1)
	a.Wipe()
	left(t, &a, 0)
	refuse(t, &a, 1, api.ErrMem)
}

func TestManyRegions(t *testing.T) {
	m := meter.New(most, 0)
	a := arena.New(m, most)
	for i := range most {
		if id, e := a.Alloc(1); id != i+1 || e != api.OK {
			t.Fatal(i, id, e)
		}
		a.Set(i+1, 0, i)
	}
	left(t, a, 0)
	refuse(t, a, 1, api.ErrMem)
	for id := 2; id <= most; id += 2 {
		a.Free(id)
	}
	left(t, a, most/2)
	refuse(t, a, 2, api.ErrMem)
	free(t, a, most-3)
	alloc(t, a, 3, most+1, most-5)
	for i := range most / 4 {
		if id, e := a.Alloc(1); id != most+2+i || e != api.OK || a.Base(id) != 2*i+1 {
			t.Fatal(i, id, e, a.Base(id))
		}
	}
	a.Wipe()
	uses(t, m, 0, api.OK)
	alloc(t, a, most, most+2+most/4, 0)
	cells := make([]int, 0, most)
	for i := range most {
		v, _ := a.Get(most+2+most/4, i)
		cells = append(cells, v)
	}
	if slices.Max(cells) != 0 || slices.Min(cells) != 0 {
		t.Error("a region told what another one held")
	}
}
