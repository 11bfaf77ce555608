package parts_test

import (
	"math"
	"slices"
	"testing"

	"sieve/api"
	"sieve/parts"
)

var (
	none = api.Set{}
	full = api.Set{1<<64 - 1, 1<<64 - 1, 1<<64 - 1, 1<<64 - 1}
)

// span is the set of lo, and so on up to hi, made bit by bit, as package api says what a set is.
func span(lo, hi int) (a api.Set) {
	for b := lo; b <= hi; b++ {
		a[b/64] |= 1 << (b % 64)
	}
	return a
}

// text is the set of a text's bytes.
func text(s string) (a api.Set) {
	for _, b := range []byte(s) {
		a = sum(a, span(int(b), int(b)))
	}
	return a
}

func sum(list ...api.Set) (a api.Set) {
	for _, s := range list {
		for i := range a {
			a[i] |= s[i]
		}
	}
	return a
}

func rest(a api.Set) api.Set {
	return api.Set{^a[0], ^a[1], ^a[2], ^a[3]}
}

func has(a api.Set, b int) bool {
	return a[b/64]>>(b%64)&1 == 1
}

// least is the first byte of a set that has one.
func least(a api.Set) int {
	for b := range 256 {
		if has(a, b) {
			return b
		}
	}
	return -1
}

// odd are numbers that no class has.
var odd = []int{-1, -2, -255, -256, -257, math.MinInt, math.MinInt + 1, 256, 257, 512, 1 << 32, 1<<32 + 1, math.MaxInt}

func same[T comparable](t *testing.T, what string, got, want T) {
	t.Helper()
	if got != want {
		t.Errorf("%s: got %v, want %v", what, got, want)
	}
}

// holds looks at all that a cut tells of its classes: these ones, in this order.
func holds(t *testing.T, what string, p *parts.Parts, want ...api.Set) {
	t.Helper()
	same(t, what+": Len", p.Len(), len(want))
	remap := p.Remap()
	for class, a := range want {
		same(t, what+": Of", p.Of(class), a)
		b, ok := p.Sample(class)
		same(t, what+": Sample", int(b), least(a))
		same(t, what+": Sample's word", ok, true)
		for b := range 256 {
			if has(a, b) {
				same(t, what+": Class", p.Class(byte(b)), class)
				same(t, what+": Remap", int(remap[b]), class)
			}
		}
		classes(t, what, p, a, class)
	}
	for _, class := range append([]int{len(want), len(want) + 1}, odd...) {
		noClass(t, what, p, class)
	}
	if t.Failed() {
		t.FailNow()
	}
}

func noClass(t *testing.T, what string, p *parts.Parts, class int) {
	t.Helper()
	same(t, what+": Of of no class", p.Of(class), none)
	b, ok := p.Sample(class)
	same(t, what+": Sample of no class", b, 0)
	same(t, what+": Sample's word of no class", ok, false)
}

func classes(t *testing.T, what string, p *parts.Parts, a api.Set, want ...int) {
	t.Helper()
	if got := p.Classes(a); !slices.Equal(got, want) {
		t.Errorf("%s: Classes(%x): got %v, want %v", what, a, got, want)
	}
}

func TestDocExample(t *testing.T) {
	p := parts.Cut(span('a', 'c'), span('c', 'z'))
	holds(t, "[a-c] and [c-z]", p, rest(span('a', 'z')), text("ab"), text("c"), span('d', 'z'))
	classes(t, "[a-c]", p, span('a', 'c'), 1, 2)
	classes(t, "[c-z]", p, span('c', 'z'), 2, 3)
	classes(t, "all but them", p, rest(span('a', 'z')), 0)
}

// P5.1: where there is nothing to tell apart.
func TestOneClass(t *testing.T) {
	for what, list := range map[string][]api.Set{
		"nil":           nil,
		"no set":        {},
		"the empty set": {none},
		"all 256":       {full},
		"both":          {none, full, none},
	} {
		p := parts.Cut(list...)
		holds(t, what, p, full)
		classes(t, what, p, full, 0)
		classes(t, what, p, none)
		classes(t, what, p, span(0, 254))
		classes(t, what, p, span(1, 255))
	}
	holds(t, "nothing handed in", parts.Cut(), full)
}

func TestTwoClasses(t *testing.T) {
	for b := range 256 {
		a := span(b, b)
		want := []api.Set{rest(a), a}
		if b == 0 {
			want = []api.Set{a, rest(a)}
		}
		holds(t, "one byte", parts.Cut(a), want...)
		holds(t, "all but one byte", parts.Cut(rest(a)), want...)
	}
	for edge := range 255 {
		low, high := span(0, edge), span(edge+1, 255)
		holds(t, "the low ones", parts.Cut(low), low, high)
		holds(t, "the high ones", parts.Cut(high), low, high)
	}
}

// P5.1: classes are numbered by their least bytes, not by the sets from which they come.
func TestNumbers(t *testing.T) {
	for what, c := range map[string]struct {
		list, want []api.Set
	}{
		"far ahead of near":     {[]api.Set{text("z"), text("m"), text("a")}, []api.Set{rest(text("amz")), text("a"), text("m"), text("z")}},
		"near ahead of far":     {[]api.Set{text("a"), text("m"), text("z")}, []api.Set{rest(text("amz")), text("a"), text("m"), text("z")}},
		"the first byte":        {[]api.Set{span(255, 255), span(0, 0)}, []api.Set{span(0, 0), span(1, 254), span(255, 255)}},
		"interlaced":            {[]api.Set{text("bd"), text("ac")}, []api.Set{rest(text("abcd")), text("ac"), text("bd")}},
		"one within another":    {[]api.Set{span('a', 'z'), text("kx")}, []api.Set{rest(span('a', 'z')), sum(span('a', 'j'), span('l', 'w'), text("yz")), text("kx")}},
		"over a word's end":     {[]api.Set{span(60, 67), span(64, 130)}, []api.Set{sum(span(0, 59), span(131, 255)), span(60, 63), span(64, 67), span(68, 130)}},
		"all bytes, in three":   {[]api.Set{span(200, 255), span(100, 199), span(0, 99)}, []api.Set{span(0, 99), span(100, 199), span(200, 255)}},
		"digits and hexadigits": {[]api.Set{sum(span('0', '9'), span('a', 'f')), span('0', '9')}, []api.Set{rest(sum(span('0', '9'), span('a', 'f'))), span('0', '9'), span('a', 'f')}},
	} {
		holds(t, what, parts.Cut(c.list...), c.want...)
	}
}

func TestOrderAndTwice(t *testing.T) {
	a, b, c := span('a', 'm'), text("aeiou"), span('h', 200)
	want := parts.Cut(a, b, c)
	for what, list := range map[string][]api.Set{
		"c a b":                {c, a, b},
		"b c a":                {b, c, a},
		"c b a":                {c, b, a},
		"a twice":              {a, a, b, c},
		"each twice":           {a, b, c, c, b, a},
		"a's others":           {rest(a), b, c},
		"a and its others":     {a, rest(a), b, c},
		"the others alone":     {rest(c), rest(b), rest(a)},
		"none and all of them": {none, a, full, b, c, none},
	} {
		got := parts.Cut(list...)
		same(t, what, got.Remap(), want.Remap())
		same(t, what+": Len", got.Len(), want.Len())
		for class := range want.Len() {
			same(t, what+": Of", got.Of(class), want.Of(class))
		}
	}
	holds(t, "a set twice", parts.Cut(a, a), rest(a), a)
	holds(t, "a set and its others", parts.Cut(rest(a), a), rest(a), a)
}

// P5.1: up to 256 classes, the last one's number beside the byte's greatest value.
func TestAllApart(t *testing.T) {
	var bits, ones, want []api.Set
	for i := range 8 {
		var a api.Set
		for b := range 256 {
			if b>>i&1 == 1 {
				a = sum(a, span(b, b))
			}
		}
		bits = append(bits, a)
	}
	for b := range 256 {
		want = append(want, span(b, b))
		ones = append(ones, span(255-b, 255-b))
	}
	for what, list := range map[string][]api.Set{"bit by bit": bits, "byte by byte": ones, "all but the last one": ones[:255], "and more": append(append(ones, bits...), none, full)} {
		p := parts.Cut(list...)
		holds(t, what, p, want...)
		classes(t, what, p, span(254, 255), 254, 255)
		same(t, what+": classes of all", len(p.Classes(full)), 256)
	}
	holds(t, "all but two", parts.Cut(ones[:254]...), append([]api.Set{span(0, 1)}, want[2:]...)...)
}

// P5.1: a class counts only if all its bytes are in the set, and what else is there doesn't matter.
func TestClasses(t *testing.T) {
	p := parts.Cut(text("bc"), text("xyz"), text("q"))
	for _, c := range []struct {
		a    api.Set
		want []int
	}{
		{none, nil},
		{full, []int{0, 1, 2, 3}},
		{text("bc"), []int{1}},
		{text("b"), nil},
		{text("bq"), []int{2}},
		{text("zyxcbq"), []int{1, 2, 3}},
		{text("xyz"), []int{3}},
		{text("xy"), nil},
		{text("abcd"), []int{1}},
		{rest(text("b")), []int{0, 2, 3}},
		{rest(text("a")), []int{1, 2, 3}},
		{rest(text("q")), []int{0, 1, 3}},
		{rest(text("bcxyzq")), []int{0}},
		{span(0, 127), []int{1, 2, 3}},
	} {
		classes(t, "bc, xyz, q", p, c.a, c.want...)
	}
}

// P5.1: calls of a nil *Parts.
func TestNil(t *testing.T) {
	var p *parts.Parts
	same(t, "Len", p.Len(), 0)
	same(t, "Remap", p.Remap(), [256]uint8{})
	for b := range 256 {
		same(t, "Class", p.Class(byte(b)), 0)
	}
	for class := range 3 {
		noClass(t, "nil", p, class)
	}
	for _, class := range odd {
		noClass(t, "nil", p, class)
	}
	for _, a := range []api.Set{none, full, text("a")} {
		classes(t, "nil", p, a)
	}
}

// What was never cut has no classes either.
func TestNeverCut(t *testing.T) {
	var p parts.Parts
	holds(t, "never cut", &p)
	classes(t, "never cut", &p, full)
	same(t, "Class", p.Class('a'), 0)
	same(t, "Remap", p.Remap(), [256]uint8{})
}

func TestNothingIsShared(t *testing.T) {
	row := []api.Set{text("a"), text("b"), text("c"), text("d")}
	p := parts.Cut(row[:2]...)
	if !slices.Equal(row, []api.Set{text("a"), text("b"), text("c"), text("d")}) {
		t.Errorf("what was handed in is %x", row)
	}
	row[0], row[1] = text("x"), full
	holds(t, "behind a change of what was handed in", p, rest(text("ab")), text("a"), text("b"))
	list, remap := p.Classes(full), p.Remap()
	list[0], list[1], list[2], remap['a'] = 7, 8, 9, 77
	_ = append(list, 5)
	holds(t, "behind a change of what was answered", p, rest(text("ab")), text("a"), text("b"))
	classes(t, "behind a change of what was answered", p, full, 0, 1, 2)
	q := parts.Cut(text("q"))
	holds(t, "another cut", q, rest(text("q")), text("q"))
	holds(t, "the first cut still", p, rest(text("ab")), text("a"), text("b"))
}
