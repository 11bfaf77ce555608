package meter_test

import (
	"math"
	"math/big"
	"math/rand"
	"testing"

	"sieve/api"
	"sieve/meter"
)

// state is all that a meter tells of itself.
type state struct {
	used, most, cells, done, steps int
	e                              api.Errno
}

func tell(m *meter.Meter) (s state) {
	s.used, s.most, s.cells = m.Cells()
	s.done, s.steps = m.Steps()
	s.e = m.Err()
	return s
}

func check(t *testing.T, m *meter.Meter, want state) {
	t.Helper()
	if got := tell(m); got != want {
		t.Errorf("got %+v, want %+v", got, want)
	}
}

func answer(t *testing.T, what string, got, want bool) {
	t.Helper()
	if got != want {
		t.Errorf("%s: got %v, want %v", what, got, want)
	}
}

func TestNewQuotas(t *testing.T) {
	const cells, steps = 1 << 20, 1 << 30
	for _, c := range []struct{ cells, steps, wantCells, wantSteps int }{
		{0, 0, 0, 0},
		{10, 5, 10, 5},
		{-1, -1, 0, 0},
		{-1, 7, 0, 7},
		{7, -1, 7, 0},
		{math.MinInt, math.MinInt, 0, 0},
		{cells - 1, steps - 1, cells - 1, steps - 1},
		{cells, steps, cells, steps},
		{cells + 1, steps + 1, cells, steps},
		{steps, cells, cells, cells},
		{math.MaxInt, math.MaxInt, cells, steps},
	} {
		check(t, meter.New(c.cells, c.steps), state{cells: c.wantCells, steps: c.wantSteps})
	}
}

func TestMetersAreApart(t *testing.T) {
	a, b := meter.New(10, 10), meter.New(10, 10)
	answer(t, "Take", a.Take(10), true)
	answer(t, "Step", a.Step(11), false)
	check(t, b, state{cells: 10, steps: 10})
}

func TestDocExample(t *testing.T) {
	m := meter.New(10, 5)
	answer(t, "Take(7)", m.Take(7), true)
	answer(t, "Take(4)", m.Take(4), false)
	check(t, m, state{used: 7, most: 7, cells: 10, steps: 5, e: api.ErrMem})
	answer(t, "Give(7)", m.Give(7), true)
	answer(t, "Take(4)", m.Take(4), true)
	check(t, m, state{used: 4, most: 7, cells: 10, steps: 5, e: api.ErrMem})
}

func TestTakeUpToTheQuota(t *testing.T) {
	m := meter.New(10, 0)
	answer(t, "Take(0)", m.Take(0), true)
	answer(t, "all and one more", m.Take(11), false)
	check(t, m, state{cells: 10, e: api.ErrMem})
	m.Begin(0)
	answer(t, "part", m.Take(6), true)
	answer(t, "what is left and one more", m.Take(5), false)
	check(t, m, state{used: 6, most: 6, cells: 10, e: api.ErrMem})
	m.Begin(0)
	answer(t, "what is left", m.Take(4), true)
	check(t, m, state{used: 10, most: 10, cells: 10})
	answer(t, "Take(0) of a full one", m.Take(0), true)
	check(t, m, state{used: 10, most: 10, cells: 10})
	answer(t, "Take(1) of a full one", m.Take(1), false)
	check(t, m, state{used: 10, most: 10, cells: 10, e: api.ErrMem})
}

func TestTakeAtTheLimit(t *testing.T) {
	m := meter.New(math.MaxInt, 0)
	answer(t, "Take(2^20+1)", m.Take(1<<20+1), false)
	answer(t, "Take(2^20)", m.Take(1<<20), true)
	answer(t, "Take(1)", m.Take(1), false)
	check(t, m, state{used: 1 << 20, most: 1 << 20, cells: 1 << 20, e: api.ErrMem})
}

func TestTakeOfOddNumbers(t *testing.T) {
	m := meter.New(10, 0)
	answer(t, "Take(6)", m.Take(6), true)
	for _, n := range []int{-1, -6, -7, math.MinInt, math.MinInt + 1} {
		answer(t, "Take below 0", m.Take(n), false)
		check(t, m, state{used: 6, most: 6, cells: 10})
	}
	for _, n := range []int{math.MaxInt, math.MaxInt - 1, math.MaxInt - 5, math.MaxInt - 6} {
		m.Begin(0)
		answer(t, "Take of a great number", m.Take(n), false)
		check(t, m, state{used: 6, most: 6, cells: 10, e: api.ErrMem})
	}
}

func TestGive(t *testing.T) {
	m := meter.New(10, 0)
	answer(t, "Give(0) of none", m.Give(0), true)
	answer(t, "Give(1) of none", m.Give(1), false)
	answer(t, "Take(6)", m.Take(6), true)
	for _, n := range []int{-1, math.MinInt, 7, 10, math.MaxInt} {
		answer(t, "Give of a wrong number", m.Give(n), false)
		check(t, m, state{used: 6, most: 6, cells: 10})
	}
	answer(t, "Give(2)", m.Give(2), true)
	check(t, m, state{used: 4, most: 6, cells: 10})
	answer(t, "Give of all and one more", m.Give(5), false)
	answer(t, "Give of all", m.Give(4), true)
	check(t, m, state{most: 6, cells: 10})
}

func TestMostIsTheGreatestEver(t *testing.T) {
	m := meter.New(10, 0)
	for _, c := range []struct{ take, give, most int }{{4, 3, 4}, {3, 4, 4}, {5, 0, 5}, {3, 8, 8}, {7, 7, 8}} {
		answer(t, "Take", m.Take(c.take), true)
		answer(t, "Give", m.Give(c.give), true)
		if _, most, _ := m.Cells(); most != c.most {
			t.Errorf("most: got %d, want %d", most, c.most)
		}
	}
}

func TestStepUpToTheQuota(t *testing.T) {
	m := meter.New(0, 10)
	answer(t, "Step(0)", m.Step(0), true)
	answer(t, "all and one more", m.Step(11), false)
	check(t, m, state{steps: 10, e: api.ErrSteps})
	m.Begin(10)
	answer(t, "part", m.Step(6), true)
	answer(t, "what is left and one more", m.Step(5), false)
	check(t, m, state{done: 6, steps: 10, e: api.ErrSteps})
	answer(t, "what is left", m.Step(4), true)
	check(t, m, state{done: 10, steps: 10, e: api.ErrSteps})
	m.Begin(1)
	answer(t, "Step(1)", m.Step(1), true)
	answer(t, "Step(0) at the end", m.Step(0), true)
	check(t, m, state{done: 1, steps: 1})
	answer(t, "Step(1) at the end", m.Step(1), false)
	check(t, m, state{done: 1, steps: 1, e: api.ErrSteps})
}

func TestStepAtTheLimit(t *testing.T) {
	m := meter.New(0, math.MaxInt)
	answer(t, "Step(2^30+1)", m.Step(1<<30+1), false)
	answer(t, "Step(2^30)", m.Step(1<<30), true)
	answer(t, "Step(1)", m.Step(1), false)
	check(t, m, state{done: 1 << 30, steps: 1 << 30, e: api.ErrSteps})
}

func TestStepOfOddNumbers(t *testing.T) {
	m := meter.New(0, 10)
	answer(t, "Step(6)", m.Step(6), true)
	for _, n := range []int{-1, -6, -7, math.MinInt, math.MinInt + 1} {
		answer(t, "Step below 0", m.Step(n), false)
		check(t, m, state{done: 6, steps: 10})
	}
	for _, n := range []int{math.MaxInt, math.MaxInt - 1, math.MaxInt - 5, math.MaxInt - 6} {
		answer(t, "Step of a great number", m.Step(n), false)
		check(t, m, state{done: 6, steps: 10, e: api.ErrSteps})
	}
}

func TestBegin(t *testing.T) {
	for _, c := range []struct{ steps, want int }{
		{0, 0}, {3, 3}, {-1, 0}, {math.MinInt, 0},
		{1<<30 - 1, 1<<30 - 1}, {1 << 30, 1 << 30}, {1<<30 + 1, 1 << 30}, {math.MaxInt, 1 << 30},
	} {
		m := meter.New(10, 5)
		m.Take(6)
		m.Give(2)
		m.Step(5)
		m.Step(1)
		m.Begin(c.steps)
		check(t, m, state{used: 4, most: 6, cells: 10, steps: c.want})
		answer(t, "one step too many", m.Step(c.want+1), false)
		answer(t, "all steps", m.Step(c.want), true)
		check(t, m, state{used: 4, most: 6, cells: 10, done: c.want, steps: c.want, e: api.ErrSteps})
	}
}

func TestFirstRefusalIsNoted(t *testing.T) {
	m := meter.New(1, 1)
	answer(t, "Take", m.Take(2), false)
	answer(t, "Step", m.Step(2), false)
	check(t, m, state{cells: 1, steps: 1, e: api.ErrMem})
	m.Begin(1)
	answer(t, "Step", m.Step(2), false)
	answer(t, "Take", m.Take(2), false)
	check(t, m, state{cells: 1, steps: 1, e: api.ErrSteps})
	m.Begin(1)
	check(t, m, state{cells: 1, steps: 1})
	answer(t, "Take", m.Take(2), false)
	check(t, m, state{cells: 1, steps: 1, e: api.ErrMem})
	answer(t, "Take", m.Take(1), true)
	answer(t, "Step", m.Step(1), true)
	check(t, m, state{used: 1, most: 1, cells: 1, done: 1, steps: 1, e: api.ErrMem})
}

func TestWrongNumbersAreNotNoted(t *testing.T) {
	m := meter.New(0, 0)
	answer(t, "Take", m.Take(-1), false)
	answer(t, "Step", m.Step(-1), false)
	answer(t, "Give", m.Give(-1), false)
	answer(t, "Give", m.Give(1), false)
	check(t, m, state{})
	answer(t, "Step", m.Step(1), false)
	answer(t, "Take", m.Take(-1), false)
	check(t, m, state{e: api.ErrSteps})
}

func TestNil(t *testing.T) {
	var m *meter.Meter
	for _, n := range []int{math.MinInt, -1, 0, 1, math.MaxInt} {
		answer(t, "Take", m.Take(n), false)
		answer(t, "Give", m.Give(n), false)
		answer(t, "Step", m.Step(n), false)
		m.Begin(n)
		check(t, m, state{e: api.ErrNil})
	}
}

// model does the same with numbers that have no bound.
type model struct {
	state
}

func above(had, n, quota int) bool {
	sum := new(big.Int).Add(big.NewInt(int64(had)), big.NewInt(int64(n)))
	return sum.Cmp(big.NewInt(int64(quota))) > 0
}

func (s *model) refuse(e api.Errno) bool {
	if s.e == api.OK {
		s.e = e
	}
	return false
}

func (s *model) take(n int) bool {
	switch {
	case n < 0:
		return false
	case above(s.used, n, s.cells):
		return s.refuse(api.ErrMem)
	}
	s.used += n
	if s.used > s.most {
		s.most = s.used
	}
	return true
}

func (s *model) give(n int) bool {
	if n < 0 || n > s.used {
		return false
	}
	s.used -= n
	return true
}

func (s *model) step(n int) bool {
	switch {
	case n < 0:
		return false
	case above(s.done, n, s.steps):
		return s.refuse(api.ErrSteps)
	}
	s.done += n
	return true
}

func (s *model) begin(steps int) {
	s.done, s.steps, s.e = 0, steps, api.OK
}

// number is mostly near what is left, at times odd.
func number(r *rand.Rand, left int) int {
	switch r.Intn(8) {
	case 0:
		return []int{math.MinInt, -1, math.MaxInt, math.MaxInt - left}[r.Intn(4)]
	case 1:
		return left + r.Intn(3) - 1
	}
	return r.Intn(left + 2)
}

func TestManyCalls(t *testing.T) {
	r := rand.New(rand.NewSource(1))
	for range 300 {
		cells, steps := r.Intn(50), r.Intn(50)
		m, want := meter.New(cells, steps), &model{state{cells: cells, steps: steps}}
		for range 100 {
			ok, wantOK := true, true
			switch r.Intn(8) {
			case 0, 1, 2:
				n := number(r, want.cells-want.used)
				ok, wantOK = m.Take(n), want.take(n)
			case 3, 4:
				n := number(r, want.used)
				ok, wantOK = m.Give(n), want.give(n)
			case 5, 6:
				n := number(r, want.steps-want.done)
				ok, wantOK = m.Step(n), want.step(n)
			case 7:
				n := r.Intn(50)
				m.Begin(n)
				want.begin(n)
			}
			answer(t, "call", ok, wantOK)
			check(t, m, want.state)
			if s := tell(m); s.used < 0 || s.used > s.most || s.most > s.cells || s.done < 0 || s.done > s.steps {
				t.Fatalf("beyond the quota: %+v", s)
			}
		}
		if t.Failed() {
			return
		}
	}
}
