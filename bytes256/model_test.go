package bytes256_test

import (
	"fmt"
	"math/rand"
	"slices"
	"strconv"
	"testing"

	"sieve/api"
	"sieve/bytes256"
)

// model is a set as one answer a byte.
type model [256]bool

func modelOf(a api.Set) (m model) {
	for b := range m {
		m[b] = a[b/64]&(1<<(b%64)) != 0
	}
	return m
}

func (m *model) set() (a api.Set) {
	for b, in := range m {
		if in {
			a[b/64] |= 1 << (b % 64)
		}
	}
	return a
}

func (m *model) count() (n int) {
	for _, in := range m {
		if in {
			n++
		}
	}
	return n
}

func (m *model) ranges() (list [][2]byte) {
	for b, in := range m {
		switch {
		case !in:
		case b > 0 && m[b-1]:
			list[len(list)-1][1] = byte(b)
		default:
			list = append(list, [2]byte{byte(b), byte(b)})
		}
	}
	return list
}

// samples are sets of all kinds: the edges, and by chance dense ones and thin ones, in single bytes and in long ranges.
func samples() []api.Set {
	list := []api.Set{none, full, set(0), set(255), set(63), set(64), set(0, 255), set(span(64, 127)...), set(span(63, 128)...), set(every(0, 255, 2)...), set(append(every(0, 255, 2), 1)...)}
	r := rand.New(rand.NewSource(4))
	for range 150 {
		var m model
		flip, in := 1+r.Intn(1+r.Intn(100)), r.Intn(2) == 0
		for b := range m {
			if r.Intn(flip) == 0 {
				in = !in
			}
			m[b] = in
		}
		list = append(list, m.set())
	}
	return list
}

// P4.1 and P4.3, of one set.
func TestSetsAgainstModel(t *testing.T) {
	for _, a := range samples() {
		m, n := modelOf(a), 0
		for b, in := range m {
			same(t, "Has", bytes256.Has(a, byte(b)), in)
			same(t, "Has of Not", bytes256.Has(bytes256.Not(a), byte(b)), !in)
			if in {
				n++
			}
		}
		same(t, "Count", bytes256.Count(a), n)
		same(t, "Count of Not", bytes256.Count(bytes256.Not(a)), 256-n)
		same(t, "Least", bytes256.Least(a), slices.Index(m[:], true))
		same(t, "Not of Not", bytes256.Not(bytes256.Not(a)), a)
		if got, want := bytes256.Ranges(a), m.ranges(); !slices.Equal(got, want) {
			t.Errorf("Ranges(%x): got %v, want %v", a, got, want)
		}
	}
}

// P4.3, of two sets: each byte is of its own doing.
func TestPairsAgainstModel(t *testing.T) {
	list := samples()
	for _, a := range list {
		for _, b := range list {
			ma, mb := modelOf(a), modelOf(b)
			var or, and, not model
			for i := range 256 {
				or[i], and[i], not[i] = ma[i] || mb[i], ma[i] && mb[i], !ma[i]
			}
			same(t, "Or", bytes256.Or(a, b), or.set())
			same(t, "And", bytes256.And(a, b), and.set())
			same(t, "Not", bytes256.Not(a), not.set())
			if t.Failed() {
				t.Fatalf("of %x and %x", a, b)
			}
		}
	}
}

// reader reads a class by the words of the chapter, from the front, and looks at nothing of the package.
type reader struct {
	rest string
}

func (r *reader) sign(s string) bool {
	if len(r.rest) < len(s) || r.rest[:len(s)] != s {
		return false
	}
	r.rest = r.rest[len(s):]
	return true
}

func (r *reader) byte() (int, error) {
	if r.sign(`\x`) {
		if len(r.rest) < 2 {
			return 0, fmt.Errorf("no two digits: %q", r.rest)
		}
		v, err := strconv.ParseUint(r.rest[:2], 16, 8)
		r.rest = r.rest[2:]
		return int(v), err
	}
	if r.rest == "" {
		return 0, fmt.Errorf("too short")
	}
	b := r.rest[0]
	for _, p := range []byte(plain) {
		if b == p {
			r.rest = r.rest[1:]
			return int(b), nil
		}
	}
	return 0, fmt.Errorf("not written as itself: %q", b)
}

func (r *reader) class() (m model, err error) {
	switch {
	case r.sign("."):
		return modelOf(full), nil
	case !r.sign("["):
		b, err := r.byte()
		m[b] = true
		return m, err
	}
	rest := r.sign("^")
	for !r.sign("]") {
		lo, err := r.byte()
		hi := lo
		if err == nil && r.sign("-") {
			hi, err = r.byte()
		}
		if err != nil {
			return m, err
		}
		for b := lo; b <= hi; b++ {
			m[b] = true
		}
	}
	for b := range m {
		m[b] = m[b] != rest
	}
	return m, nil
}

// P4.3: who reads a text finds the set that it is of, so unlike sets have unlike texts.
func readBack(t *testing.T, a api.Set) {
	t.Helper()
	s := bytes256.Text(a)
	r := reader{s}
	m, err := r.class()
	if err != nil || r.rest != "" || m.set() != a {
		t.Fatalf("Text(%x): %s is read as %x, %v, with %q left", a, s, m.set(), err, r.rest)
	}
}

func TestTextsAreReadBack(t *testing.T) {
	for lo := range 256 {
		for hi := range 256 {
			readBack(t, bytes256.Of(byte(lo), byte(hi)))
			readBack(t, bytes256.Not(bytes256.Of(byte(lo), byte(hi))))
			readBack(t, set(lo, hi))
		}
	}
	for _, a := range samples() {
		readBack(t, a)
	}
}

func TestUnlikeTexts(t *testing.T) {
	of := map[string]api.Set{}
	look := func(a api.Set) {
		s := bytes256.Text(a)
		if b, ok := of[s]; ok && a != b {
			t.Fatalf("%s is the text of %x and of %x", s, a, b)
		}
		of[s] = a
	}
	for lo := range 256 {
		for hi := lo; hi < 256; hi++ {
			look(set(lo, hi))
			look(set(span(lo, hi)...))
			look(bytes256.Not(set(lo, hi)))
			look(bytes256.Not(set(span(lo, hi)...)))
		}
	}
	// All sets of the bytes that mean something within a class, and of some that don't.
	for code := range 1 << 8 {
		a := none
		for i, b := range []byte(`^-][\.xa`) {
			if code>>i&1 == 1 {
				a = sum(a, set(int(b)))
			}
		}
		look(a)
		look(bytes256.Not(a))
	}
}

// P4.2: the text, put together from the model's ranges.
func TestTextsAgainstModel(t *testing.T) {
	for _, a := range samples() {
		m := modelOf(a)
		open := "["
		switch n := m.count(); {
		case n == 1 || n == 256:
			continue
		case n > 128:
			open = "[^"
			m = modelOf(bytes256.Not(a))
		}
		want := open
		for _, r := range m.ranges() {
			want += bytes256.Escape(r[0])
			if r[1]-r[0] > 1 {
				want += "-"
			}
			if r[1]-r[0] > 0 {
				want += bytes256.Escape(r[1])
			}
		}
		same(t, fmt.Sprintf("Text(%x)", a), bytes256.Text(a), want+"]")
	}
}
