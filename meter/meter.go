// Package meter is layer 1: see shared/doc/01-meter.md.
package meter

import "sieve/api"

// Meter: what may be used, and what was.
type Meter struct {
	used, most, cells int
	done, steps       int
	refused           api.Errno
}

// New: so many cells, and steps.
func New(cells, steps int) *Meter {
	return &Meter{cells: within(cells, api.MaxCells), steps: within(steps, api.MaxSteps)}
}

// Take: n cells are used.
func (m *Meter) Take(n int) bool {
	if m == nil || n < 0 {
		return false
	}
	if !fits(m.used, n, m.cells) {
		m.note(api.ErrMem)
		return false
	}
	m.used += n
	m.most = max(m.most, m.used)
	return true
}

// Give: n cells are free again.
func (m *Meter) Give(n int) bool {
	if m == nil || n < 0 || n > m.used {
		return false
	}
	m.used -= n
	return true
}

// Step: n steps are done.
func (m *Meter) Step(n int) bool {
	if m == nil || n < 0 {
		return false
	}
	if !fits(m.done, n, m.steps) {
		m.note(api.ErrSteps)
		return false
	}
	m.done += n
	return true
}

// Begin: a request begins, with so many steps.
func (m *Meter) Begin(steps int) {
	if m == nil {
		return
	}
	m.steps = within(steps, api.MaxSteps)
	m.done = 0
	m.refused = api.OK
}

// Cells: of cells: now, at most so far, and how many may be.
func (m *Meter) Cells() (used, most, quota int) {
	if m == nil {
		return 0, 0, 0
	}
	return m.used, m.most, m.cells
}

// Steps: of steps.
func (m *Meter) Steps() (done, quota int) {
	if m == nil {
		return 0, 0
	}
	return m.done, m.steps
}

// Err: what was refused first since the beginning.
func (m *Meter) Err() api.Errno {
	if m == nil {
		return api.ErrNil
	}
	return m.refused
}

// note keeps the first refusal alone, as later ones often follow from it.
func (m *Meter) note(e api.Errno) {
	if m.refused == api.OK {
		m.refused = e
	}
}

// within brings a quota between 0 and a limit.
func within(quota, limit int) int {
	return min(max(quota, 0), limit)
}

// fits asks by a difference, as the sum could be beyond the greatest int.
func fits(had, n, quota int) bool {
	return n <= quota-had
}
