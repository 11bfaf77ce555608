package ends_test

import (
	"maps"
	"math/bits"
	"math/rand"
	"regexp"
	"slices"
	"strconv"
	"strings"
	"testing"

	"sieve/api"
	"sieve/ends"
	"sieve/show"
)

// The first model has an expression's texts themselves, up to so many bytes, put together by the chapter's own words.

type language map[string]bool

func textsOf(n api.Node, long int) language {
	list := language{}
	switch n.Kind {
	case api.Empty:
		return language{"": true}
	case api.Class:
		for i := range 256 {
			if long > 0 && n.Set[i/64]>>(i%64)&1 == 1 {
				list[string([]byte{byte(i)})] = true
			}
		}
		return list
	case api.Cat:
		list[""] = true
		for _, s := range n.Subs {
			list = behind(list, textsOf(s, long), long)
		}
		return list
	case api.Alt:
		for _, s := range n.Subs {
			maps.Copy(list, textsOf(s, long))
		}
		return list
	}
	return oftenTexts(textsOf(n.Subs[0], long), n.Min, n.Max, long)
}

func oftenTexts(once language, least, most, long int) language {
	if most == -1 {
		// Of more texts than these some above Min are empty, and needn't be there.
		most = least + long
	}
	list, row := language{}, language{"": true}
	for many := 0; ; many++ {
		if many >= least {
			maps.Copy(list, row)
		}
		if many == most {
			return list
		}
		row = behind(row, once, long)
	}
}

func behind(x, y language, long int) language {
	list := language{}
	for s := range x {
		for u := range y {
			if len(s)+len(u) <= long {
				list[s+u] = true
			}
		}
	}
	return list
}

// allTexts has the texts of so many of these bytes.
func allTexts(of string, long int) []string {
	list := []string{""}
	for range long {
		var next []string
		for _, s := range list {
			for _, b := range of {
				next = append(next, s+string(b))
			}
		}
		list = next
	}
	return list
}

// P11.1: all expressions of few levels, by all short texts.
func TestAllSmallExpressions(t *testing.T) {
	const long = 4
	texts := allTexts("ab", long)
	check := func(n api.Node) {
		list := textsOf(n, long)
		for i, s := range texts {
			for from := i % 2 * 3; from <= long; from++ {
				var want []int
				for to := from; to <= long; to++ {
					if list[s[from:to]] {
						want = append(want, to)
					}
				}
				if got, e := ends.All(n, s, from); e != api.OK || !slices.Equal(got, want) {
					t.Fatalf("%s of %q from %d: got %d, %d, want %d", name(n), s, from, got, e, want)
				}
				if ends.Match(n, s[from:]) != list[s[from:]] {
					t.Fatalf("%s of %q: got match %t", name(n), s[from:], !list[s[from:]])
				}
			}
		}
	}
	atoms := []api.Node{empty, nothing, a, b, class("ab")}
	times := [][2]int{{0, -1}, {1, -1}, {2, -1}, {0, 0}, {0, 1}, {1, 1}, {2, 2}, {1, 2}, {0, 3}, {3, 3}}
	level := slices.Clone(atoms)
	for _, x := range atoms {
		for _, often := range times {
			level = append(level, rep(x, often[0], often[1]))
		}
		for _, y := range atoms {
			level = append(level, cat(x, y), alt(x, y))
		}
	}
	for i, x := range level {
		check(x)
		for _, often := range times {
			check(rep(x, often[0], often[1]))
			for _, y := range atoms {
				check(rep(cat(x, y), often[0], often[1]))
				check(rep(alt(y, x), often[0], often[1]))
			}
		}
		for j, y := range level {
			if (i+j)%3 == 0 {
				check(cat(x, y))
				check(alt(x, y))
			}
		}
	}
}

// The second model has all of an expression at once: of each place in a text of at most 63 bytes the places where a text of the expression that begins there ends, as bits of a number.

type relation [64]uint64

func relationOf(n api.Node, s string) (r relation) {
	switch n.Kind {
	case api.Class:
		for i := range len(s) {
			if n.Set[s[i]/64]>>(s[i]%64)&1 == 1 {
				r[i] = 1 << (i + 1)
			}
		}
		return r
	case api.Cat:
		r = stay()
		for _, sub := range n.Subs {
			r = r.then(relationOf(sub, s))
		}
		return r
	case api.Alt:
		for _, sub := range n.Subs {
			r = r.or(relationOf(sub, s))
		}
		return r
	case api.Rep:
		return relationOf(n.Subs[0], s).often(n.Min, n.Max, len(s))
	}
	return stay()
}

func stay() (r relation) {
	for i := range r {
		r[i] = 1 << i
	}
	return r
}

func (r relation) then(next relation) (both relation) {
	for i, w := range r {
		for ; w != 0; w &= w - 1 {
			both[i] |= next[bits.TrailingZeros64(w)]
		}
	}
	return both
}

func (r relation) or(other relation) relation {
	for i := range r {
		r[i] |= other[i]
	}
	return r
}

func (r relation) often(least, most, long int) (any relation) {
	if most == -1 {
		most = least + long
	}
	row := stay()
	for many := range most + 1 {
		if many >= least {
			any = any.or(row)
		}
		row = row.then(r)
	}
	return any
}

// list has a row of it, so much further on.
func (r relation) list(row, further int) (list []int) {
	for w := r[row]; w != 0; w &= w - 1 {
		list = append(list, bits.TrailingZeros64(w)+further)
	}
	return list
}

// chanceNode is right, if it has few enough brackets.
func chanceNode(r *rand.Rand, deep, often int) api.Node {
	k := r.Intn(9)
	if deep == 0 {
		k %= 3
	}
	switch {
	case k == 0:
		return []api.Node{empty, nothing, empty, anyByte}[r.Intn(4)]
	case k < 3:
		return class([]string{"a", "b", "ab", "c", "bc\xff", "a", "b"}[r.Intn(7)])
	case k < 6:
		least, most := chanceTimes(r, often)
		return rep(chanceNode(r, deep-1, often), least, most)
	}
	n := api.Node{Kind: api.Cat + k%2}
	for range 2 + r.Intn(3)/2 {
		n.Subs = append(n.Subs, chanceNode(r, r.Intn(deep), often))
	}
	n.Subs[r.Intn(len(n.Subs))] = chanceNode(r, deep-1, often)
	return n
}

func chanceTimes(r *rand.Rand, often int) (least, most int) {
	least = r.Intn(2) * r.Intn(often+1)
	switch r.Intn(3) {
	case 0:
		return least, -1
	case 1:
		return least, least
	}
	return least, least + r.Intn(often+1-least)
}

// chanceText has mostly the bytes that come first.
func chanceText(r *rand.Rand, bytes string, long int) string {
	s := make([]byte, long)
	mixed := 1 + r.Intn(len(bytes))
	for i := range s {
		s[i] = bytes[r.Intn(1+r.Intn(mixed))]
	}
	return string(s)
}

// P11.1, P11.3: expressions by chance, some of many brackets, from any place, wherever in the text that is.
func TestAgainstModel(t *testing.T) {
	r := rand.New(rand.NewSource(11))
	none, few, many := 0, 0, 0
	for i := range 30000 {
		n := chanceNode(r, i%9, []int{2, 3, 20}[i%3])
		if i%2 == 0 {
			n = nested(n, 1+r.Intn(1+r.Intn(7)), func(n api.Node) api.Node {
				least, most := chanceTimes(r, 20)
				return rep([]api.Node{n, cat(a, n), alt(n, b), cat(n, rep(b, 0, 1)), alt(a, cat(a, n, b))}[r.Intn(5)], least, most)
			})
		}
		s := chanceText(r, "abc\xff", r.Intn(1+i%64))
		ahead := chanceText(r, "ba", r.Intn(2)*r.Intn(200))
		if !show.Right(n) {
			refused(t, n, s, 0, api.ErrArg)
			continue
		}
		model := relationOf(n, s)
		for _, from := range []int{0, r.Intn(len(s) + 1), len(s)} {
			want := model.list(from, len(ahead))
			endsAre(t, n, ahead+s, len(ahead)+from, want)
			switch len(want) {
			case 0:
				none++
			case 1, 2:
				few++
			default:
				many++
			}
		}
		if t.Failed() {
			t.FailNow()
		}
	}
	if min(none, few, many) < 5000 {
		t.Errorf("of %d there was no end, of %d few, of %d many", none, few, many)
	}
}

// P11.2: lists of rules by chance, some of which aren't right.
func TestBestAgainstModel(t *testing.T) {
	r := rand.New(rand.NewSource(112))
	found, ties := 0, 0
	for range 4000 {
		s := chanceText(r, "abc", r.Intn(12))
		list := make([]api.Rule, r.Intn(6))
		for i := range list {
			list[i].Re = chanceNode(r, r.Intn(4), 3)
			if i > 0 && r.Intn(4) == 0 {
				list[i] = list[r.Intn(i)]
			} else if r.Intn(5) == 0 {
				list[i].Re = alt(list[i].Re, odd)
			}
		}
		for from := range len(s) + 1 {
			far := make([]int, len(list))
			for i := range list {
				if show.Right(list[i].Re) {
					far[i] = bits.Len64(relationOf(list[i].Re, s)[from]) - 1
				}
			}
			rule, to := -1, -1
			if len(far) > 0 && slices.Max(far) > from {
				to = slices.Max(far)
				rule = slices.Index(far, to)
				found++
				if slices.Contains(far[rule+1:], to) {
					ties++
				}
			}
			best(t, list, s, from, rule, to)
		}
		if t.Failed() {
			t.FailNow()
		}
	}
	if found < 5000 || ties < 500 {
		t.Errorf("%d times there was one, %d times several", found, ties)
	}
}

// The third model is the library's own.

// pattern is the expression as the library has it.
func pattern(n api.Node) string {
	var list []string
	for _, s := range n.Subs {
		list = append(list, "(?:"+pattern(s)+")")
	}
	switch n.Kind {
	case api.Class:
		row := "["
		for b := range 128 {
			if n.Set[b/64]>>(b%64)&1 == 1 {
				row += `\x{` + strconv.FormatInt(int64(b), 16) + "}"
			}
		}
		if row == "[" {
			return `[^\x{0}-\x{10ffff}]`
		}
		return row + "]"
	case api.Alt:
		return strings.Join(list, "|")
	case api.Rep:
		most := ""
		if n.Max >= 0 {
			most = strconv.Itoa(n.Max)
		}
		return list[0] + "{" + strconv.Itoa(n.Min) + "," + most + "}"
	}
	return strings.Join(list, "")
}

// P11.1, P11.2: longer texts, by what the library matches of them.
func TestAgainstLibrary(t *testing.T) {
	r := rand.New(rand.NewSource(113))
	for i := range 6000 {
		n := chanceNode(r, i%5, 4)
		whole := regexp.MustCompile(`\A(?s:` + pattern(n) + `)\z`)
		longest := regexp.MustCompile(`\A(?s:` + pattern(n) + `)`)
		longest.Longest()
		s := chanceText(r, "abc", r.Intn(150))
		from := r.Intn(len(s) + 1)
		var want []int
		for to := from; to <= len(s); to++ {
			if whole.MatchString(s[from:to]) {
				want = append(want, to)
			}
		}
		endsAre(t, n, s, from, want)
		last := -1
		if span := longest.FindStringIndex(s[from:]); span != nil {
			last = from + span[1]
		}
		if got := ends.Longest(n, s, from); got != last {
			t.Errorf("%s of %q from %d: got longest %d, want %d", name(n), s, from, got, last)
		}
		if t.Failed() {
			t.FailNow()
		}
	}
}
