package bytes256_test

import (
	"fmt"
	"slices"
	"strings"
	"testing"

	"sieve/api"
	"sieve/bytes256"
)

// plain are the bytes that the document writes as themselves.
const plain = "abcdefghijklmnopqrstuvwxyzABCDEFGHIJKLMNOPQRSTUVWXYZ0123456789 !\"#%&',/:;<=>@_`~"

var (
	none = api.Set{}
	full = api.Set{1<<64 - 1, 1<<64 - 1, 1<<64 - 1, 1<<64 - 1}
)

// set is made bit by bit, as package api says what a set is.
func set(list ...int) (a api.Set) {
	for _, b := range list {
		a[b/64] |= 1 << (b % 64)
	}
	return a
}

// span is lo, and so on up to hi.
func span(lo, hi int) (list []int) {
	for b := lo; b <= hi; b++ {
		list = append(list, b)
	}
	return list
}

// every is lo, and each step-th one up to hi.
func every(lo, hi, step int) (list []int) {
	for b := lo; b <= hi; b += step {
		list = append(list, b)
	}
	return list
}

// text is the set of a text's bytes.
func text(s string) (a api.Set) {
	for _, b := range []byte(s) {
		a = sum(a, set(int(b)))
	}
	return a
}

func sum(a, b api.Set) api.Set {
	return api.Set{a[0] | b[0], a[1] | b[1], a[2] | b[2], a[3] | b[3]}
}

func same[T comparable](t *testing.T, what string, got, want T) {
	t.Helper()
	if got != want {
		t.Errorf("%s: got %v, want %v", what, got, want)
	}
}

func TestDocExamples(t *testing.T) {
	same(t, "Of(a, c)", bytes256.Of('a', 'c'), set('a', 'b', 'c'))
	same(t, "Text of [a-c]", bytes256.Text(bytes256.Of('a', 'c')), "[a-c]")
	same(t, "Text of x and -", bytes256.Text(bytes256.Or(bytes256.One('x'), bytes256.One('-'))), `[\x2dx]`)
}

// P4.1: all ranges, also those whose first byte is above their last one.
func TestOf(t *testing.T) {
	for lo := range 256 {
		want := none
		for hi := range 256 {
			if hi >= lo {
				want = sum(want, set(hi))
			}
			if got := bytes256.Of(byte(lo), byte(hi)); got != want {
				t.Fatalf("Of(%d, %d): got %x, want %x", lo, hi, got, want)
			}
		}
	}
}

func TestOfAtTheEdges(t *testing.T) {
	for _, c := range []struct {
		lo, hi byte
		want   api.Set
	}{
		{0, 255, full},
		{255, 0, none},
		{1, 0, none},
		{255, 254, none},
		{64, 63, none},
		{'b', 'a', none},
		{0, 0, api.Set{1}},
		{255, 255, api.Set{3: 1 << 63}},
		{0, 63, api.Set{1<<64 - 1}},
		{64, 127, api.Set{1: 1<<64 - 1}},
		{192, 255, api.Set{3: 1<<64 - 1}},
		{63, 64, api.Set{1 << 63, 1}},
		{127, 128, api.Set{0, 1 << 63, 1}},
		{62, 129, api.Set{3 << 62, 1<<64 - 1, 3}},
		{191, 255, api.Set{2: 1 << 63, 3: 1<<64 - 1}},
	} {
		same(t, fmt.Sprintf("Of(%d, %d)", c.lo, c.hi), bytes256.Of(c.lo, c.hi), c.want)
	}
}

func TestOne(t *testing.T) {
	for b := range 256 {
		same(t, fmt.Sprintf("One(%d)", b), bytes256.One(byte(b)), set(b))
	}
}

func TestOrAndNot(t *testing.T) {
	a, b := set(0, 1, 63, 64, 128, 255), set(1, 2, 64, 65, 191, 255)
	same(t, "Or", bytes256.Or(a, b), set(0, 1, 2, 63, 64, 65, 128, 191, 255))
	same(t, "And", bytes256.And(a, b), set(1, 64, 255))
	same(t, "Not", bytes256.Not(bytes256.Of(1, 254)), set(0, 255))
	same(t, "Not of none", bytes256.Not(none), full)
	same(t, "Not of all", bytes256.Not(full), none)
	for _, s := range []api.Set{none, full, a, b} {
		same(t, "Or with none", bytes256.Or(s, none), s)
		same(t, "Or with all", bytes256.Or(s, full), full)
		same(t, "And with none", bytes256.And(s, none), none)
		same(t, "And with all", bytes256.And(s, full), s)
	}
}

func TestHas(t *testing.T) {
	a := set(0, 63, 64, 100, 255)
	for b := range 256 {
		want := slices.Contains([]int{0, 63, 64, 100, 255}, b)
		same(t, fmt.Sprintf("Has(%d)", b), bytes256.Has(a, byte(b)), want)
		same(t, fmt.Sprintf("Has(%d) of none", b), bytes256.Has(none, byte(b)), false)
		same(t, fmt.Sprintf("Has(%d) of all", b), bytes256.Has(full, byte(b)), true)
	}
}

func TestCountAndLeast(t *testing.T) {
	for _, c := range []struct {
		a            api.Set
		count, least int
	}{
		{none, 0, -1},
		{full, 256, 0},
		{set(0), 1, 0},
		{set(1), 1, 1},
		{set(255), 1, 255},
		{set(0, 255), 2, 0},
		{set(63, 64), 2, 63},
		{set(64, 200), 2, 64},
		{set(128), 1, 128},
		{set(192, 193, 194), 3, 192},
		{set(span(1, 255)...), 255, 1},
		{set(span(128, 255)...), 128, 128},
		{set(span(127, 255)...), 129, 127},
		{set(every(1, 255, 2)...), 128, 1},
	} {
		same(t, fmt.Sprintf("Count(%x)", c.a), bytes256.Count(c.a), c.count)
		same(t, fmt.Sprintf("Least(%x)", c.a), bytes256.Least(c.a), c.least)
	}
}

func TestRanges(t *testing.T) {
	for _, c := range []struct {
		a    api.Set
		want [][2]byte
	}{
		{none, nil},
		{full, [][2]byte{{0, 255}}},
		{set(0), [][2]byte{{0, 0}}},
		{set(255), [][2]byte{{255, 255}}},
		{set(0, 255), [][2]byte{{0, 0}, {255, 255}}},
		{set(0, 1, 254, 255), [][2]byte{{0, 1}, {254, 255}}},
		{set(span(1, 254)...), [][2]byte{{1, 254}}},
		{set(63, 64), [][2]byte{{63, 64}}},
		{set(63, 65), [][2]byte{{63, 63}, {65, 65}}},
		{set(span(0, 63)...), [][2]byte{{0, 63}}},
		{set(span(64, 255)...), [][2]byte{{64, 255}}},
		{set(span(60, 200)...), [][2]byte{{60, 200}}},
		{set('a', 'c', 'd', 'f', 'g', 'h'), [][2]byte{{'a', 'a'}, {'c', 'd'}, {'f', 'h'}}},
		{set('h', 'a', 'g'), [][2]byte{{'a', 'a'}, {'g', 'h'}}},
	} {
		if got := bytes256.Ranges(c.a); !slices.Equal(got, c.want) {
			t.Errorf("Ranges(%x): got %v, want %v", c.a, got, c.want)
		}
	}
}

func TestRangesAreNewMemory(t *testing.T) {
	a := set('a', 'c')
	got := bytes256.Ranges(a)
	got[0][0], got[1] = 'z', [2]byte{'x', 'y'}
	if again := bytes256.Ranges(a); !slices.Equal(again, [][2]byte{{'a', 'a'}, {'c', 'c'}}) {
		t.Errorf("got %v behind a change of what was answered", again)
	}
	same(t, "the set", a, set('a', 'c'))
}

// P4.2: all 256 bytes.
func TestEscape(t *testing.T) {
	if len(plain) != 26+26+10+18 {
		t.Fatal(len(plain))
	}
	for b := range 256 {
		want := fmt.Sprintf(`\x%02x`, b)
		if strings.IndexByte(plain, byte(b)) >= 0 {
			want = string([]byte{byte(b)})
		}
		same(t, fmt.Sprintf("Escape(%d)", b), bytes256.Escape(byte(b)), want)
		same(t, fmt.Sprintf("Text(One(%d))", b), bytes256.Text(set(b)), want)
	}
}

func TestEscapeOfSigns(t *testing.T) {
	for b, want := range map[byte]string{
		0: `\x00`, '\t': `\x09`, '\n': `\x0a`, 31: `\x1f`, ' ': " ", '$': `\x24`, '(': `\x28`, ')': `\x29`, '*': `\x2a`, '+': `\x2b`, '-': `\x2d`, '.': `\x2e`, '?': `\x3f`,
		'[': `\x5b`, '\\': `\x5c`, ']': `\x5d`, '^': `\x5e`, '{': `\x7b`, '|': `\x7c`, '}': `\x7d`, '~': "~", 127: `\x7f`, 128: `\x80`, 0xe9: `\xe9`, 255: `\xff`,
	} {
		same(t, fmt.Sprintf("Escape(%d)", b), bytes256.Escape(b), want)
	}
}

func TestTextOfFewBytes(t *testing.T) {
	for _, c := range []struct {
		a    api.Set
		want string
	}{
		{none, "[]"},
		{set(0), `\x00`},
		{set(255), `\xff`},
		{set('a'), "a"},
		{set('-'), `\x2d`},
		{text("ab"), "[ab]"},
		{text("abc"), "[a-c]"},
		{text("abcd"), "[a-d]"},
		{text("ac"), "[ac]"},
		{text("acdfgh"), "[acdf-h]"},
		{text("0123456789ABCDEF"), "[0-9A-F]"},
		{text("hgfdca"), "[acdf-h]"},
		{text("^a"), `[\x5ea]`},
		{text("()"), `[\x28\x29]`},
		{text("()*"), `[\x28-\x2a]`},
		{text(",-."), `[,-\x2e]`},
		{text(",-"), `[,\x2d]`},
		{text("]["), `[\x5b\x5d]`},
		{text(`[\]`), `[\x5b-\x5d]`},
		{text("'()"), `['-\x29]`},
		{set(0, 255), `[\x00\xff]`},
		{set(0, 1), `[\x00\x01]`},
		{set(0, 1, 2), `[\x00-\x02]`},
		{set(254, 255), `[\xfe\xff]`},
		{set(253, 254, 255), `[\xfd-\xff]`},
		{set(63, 64), `[\x3f@]`},
		{set(62, 63, 64, 65), "[>-A]"},
		{set(127, 128), `[\x7f\x80]`},
		{text(" ~"), "[ ~]"},
	} {
		same(t, fmt.Sprintf("Text(%x)", c.a), bytes256.Text(c.a), c.want)
	}
}

func TestTextOfManyBytes(t *testing.T) {
	for _, c := range []struct {
		a    api.Set
		want string
	}{
		{full, "."},
		{set(span(1, 255)...), `[^\x00]`},
		{set(span(0, 254)...), `[^\xff]`},
		{set(span(1, 254)...), `[^\x00\xff]`},
		{bytes256.Not(text("a")), "[^a]"},
		{bytes256.Not(text("ab")), "[^ab]"},
		{bytes256.Not(text("abc")), "[^a-c]"},
		{bytes256.Not(text("acdfgh")), "[^acdf-h]"},
		{bytes256.Not(text("^-]")), `[^\x2d\x5d\x5e]`},
		{set(span(0, 126)...), `[\x00-\x7e]`},
		{set(span(0, 127)...), `[\x00-\x7f]`},
		{set(span(0, 128)...), `[^\x81-\xff]`},
		{set(span(128, 255)...), `[\x80-\xff]`},
		{set(span(127, 255)...), `[^\x00-~]`},
		{set(append(span(0, 126), 255)...), `[\x00-~\xff]`},
		{set(append(span(0, 127), 255)...), `[^\x80-\xfe]`},
	} {
		want := strings.ReplaceAll(c.want, `\x7e`, "~")
		same(t, fmt.Sprintf("Text(%x)", c.a), bytes256.Text(c.a), want)
	}
}

// P4.2: each byte a range of its own, or each two, or each three, on both sides of 128.
func TestTextOfManyRanges(t *testing.T) {
	even, odd := every(0, 255, 2), every(1, 255, 2)
	list := func(bytes []int) (s string) {
		for _, b := range bytes {
			s += bytes256.Escape(byte(b))
		}
		return s
	}
	same(t, "Text of 128", bytes256.Text(set(even...)), "["+list(even)+"]")
	same(t, "Text of the other 128", bytes256.Text(set(odd...)), "["+list(odd)+"]")
	same(t, "Text of 127", bytes256.Text(set(even[1:]...)), "["+list(even[1:])+"]")
	same(t, "Text of 129", bytes256.Text(set(append(even, 255)...)), "[^"+list(odd[:127])+"]")
	same(t, "Text of 130", bytes256.Text(set(append(even, 1, 255)...)), "[^"+list(odd[1:127])+"]")
	twos, threes, wantTwos, wantThrees := none, none, "", ""
	for b := 0; b+2 < 256; b += 4 {
		twos, threes = sum(twos, set(b, b+1)), sum(threes, set(b, b+1, b+2))
		wantTwos += list([]int{b, b + 1})
		wantThrees += list([]int{b}) + "-" + list([]int{b + 2})
	}
	same(t, "Text of twos", bytes256.Text(twos), "["+wantTwos+"]")
	same(t, "Text of all but threes", bytes256.Text(bytes256.Not(threes)), "["+list(every(3, 255, 4))+"]")
	same(t, "Text of threes", bytes256.Text(threes), "[^"+list(every(3, 255, 4))+"]")
	few := bytes256.And(threes, set(span(0, 127)...))
	same(t, "Text of few threes", bytes256.Text(few), "["+wantThrees[:strings.Index(wantThrees, `\x80`)]+"]")
}
