package measure_test

import (
	"maps"
	"math/big"
	"math/rand"
	"slices"
	"testing"

	"sieve/api"
	"sieve/measure"
)

// The first model has an expression's texts themselves, up to so many bytes, put together by the chapter's own words.

type language map[string]bool

func textsOf(n api.Node, long int) language {
	switch n.Kind {
	case api.Empty:
		return language{"": true}
	case api.Class:
		list := language{}
		for i := range 256 {
			if long > 0 && n.Set[i/64]>>(i%64)&1 == 1 {
				list[string([]byte{byte(i)})] = true
			}
		}
		return list
	case api.Cat:
		list := language{"": true}
		for _, s := range n.Subs {
			list = behind(list, textsOf(s, long), long)
		}
		return list
	case api.Alt:
		list := language{}
		for _, s := range n.Subs {
			maps.Copy(list, textsOf(s, long))
		}
		return list
	}
	return oftenTexts(textsOf(n.Subs[0], long), n.Min, n.Max, long)
}

func oftenTexts(once language, least, most, long int) language {
	if most == -1 {
		// Of more texts than these some above Min are empty, and needn't be there.
		most = least + long
	}
	list, row := language{}, language{"": true}
	for many := 0; ; many++ {
		if many >= least {
			maps.Copy(list, row)
		}
		if many == most {
			return list
		}
		row = behind(row, once, long)
	}
}

func behind(a, b language, long int) language {
	list := language{}
	for x := range a {
		for y := range b {
			if len(x)+len(y) <= long {
				list[x+y] = true
			}
		}
	}
	return list
}

// checkTexts holds an expression whose shortest and first texts, and the longest one if there is one, have no more than so many bytes, against its texts.
func checkTexts(t *testing.T, n api.Node, long int) {
	t.Helper()
	first, least, most := api.Set{}, -1, -1
	for s := range textsOf(n, 2*long) {
		if least == -1 || len(s) < least {
			least = len(s)
		}
		most = max(most, len(s))
		if s != "" {
			first[s[0]/64] |= 1 << (s[0] % 64)
		}
	}
	if most > long {
		most = -1
	}
	matches(t, n, first, least, most)
}

// P9.2: what is told of all expressions of few levels, against the texts that they match.
func TestAllSmallExpressions(t *testing.T) {
	atoms := []api.Node{empty, nothing, a, b, class("ab")}
	level := slices.Clone(atoms)
	for _, x := range atoms {
		for _, times := range [][2]int{{0, -1}, {1, -1}, {2, -1}, {0, 0}, {0, 1}, {1, 1}, {2, 2}, {0, 2}} {
			level = append(level, rep(x, times[0], times[1]))
		}
		for _, y := range atoms {
			level = append(level, cat(x, y), alt(x, y))
		}
	}
	check := func(n api.Node) {
		// Up to four of two levels' bytes.
		checkTexts(t, n, 4)
		checkCounts(t, n)
		if t.Failed() {
			t.FailNow()
		}
	}
	for _, x := range level {
		check(x)
		for _, times := range [][2]int{{0, -1}, {1, -1}, {2, -1}, {0, 0}, {0, 1}, {1, 1}, {2, 2}, {1, 2}} {
			check(rep(x, times[0], times[1]))
		}
		for _, y := range level {
			check(cat(x, y))
			check(alt(x, y))
		}
	}
}

// The second model has of an expression's texts how long they are, up to so many bytes: the bit i of a number tells whether there is one of i bytes. Beside all of them it has those that begin with some byte.

type lengths struct {
	all, begin *big.Int
	mask       *big.Int
}

func (l lengths) of(all, begin bool) lengths {
	bit := func(is bool, i uint) *big.Int {
		if !is {
			return new(big.Int)
		}
		return new(big.Int).Lsh(big.NewInt(1), i)
	}
	// An expression of one text has the empty one, or one of a byte.
	return lengths{bit(all, 1), bit(begin, 1), l.mask}
}

func (l lengths) none() lengths  { return l.of(false, false) }
func (l lengths) blank() lengths { return lengths{big.NewInt(1), new(big.Int), l.mask} }

// sums: how long it is what is as long as one of x, and one of y behind it.
func (l lengths) sums(x, y *big.Int) *big.Int {
	z := new(big.Int)
	for i := range x.BitLen() {
		if x.Bit(i) == 1 {
			z.Or(z, new(big.Int).Lsh(y, uint(i)))
		}
	}
	return z.And(z, l.mask)
}

func (l lengths) cat(next lengths) lengths {
	begin := l.sums(l.begin, next.all)
	if l.all.Bit(0) == 1 {
		begin.Or(begin, next.begin)
	}
	return lengths{l.sums(l.all, next.all), begin, l.mask}
}

func (l lengths) alt(other lengths) lengths {
	return lengths{new(big.Int).Or(l.all, other.all), new(big.Int).Or(l.begin, other.begin), l.mask}
}

func (l lengths) same(other lengths) bool {
	return l.all.Cmp(other.all) == 0 && l.begin.Cmp(other.begin) == 0
}

// often: one more and one more, till there are as many as may be, or nothing new comes.
func (l lengths) often(least, most int) lengths {
	row := l.blank()
	for range least {
		row = row.cat(l)
	}
	list := row
	for many := least; many != most; many++ {
		row = row.cat(l)
		more := list.alt(row)
		if most == -1 && more.same(list) {
			break
		}
		list = more
	}
	return list
}

// lengthsOf: of the expression; those that begin with b apart.
func lengthsOf(n api.Node, b int, mask *big.Int) lengths {
	l := lengths{mask: mask}
	switch n.Kind {
	case api.Class:
		return l.of(n.Set != api.Set{}, n.Set[b/64]>>(b%64)&1 == 1)
	case api.Cat:
		l = l.blank()
		for _, s := range n.Subs {
			l = l.cat(lengthsOf(s, b, mask))
		}
		return l
	case api.Alt:
		l = l.none()
		for _, s := range n.Subs {
			l = l.alt(lengthsOf(s, b, mask))
		}
		return l
	case api.Rep:
		return lengthsOf(n.Subs[0], b, mask).often(n.Min, n.Max)
	}
	return l.blank()
}

// checkLengths holds an expression that isn't wider than it is told against how long its texts are.
func checkLengths(t *testing.T, r *rand.Rand, n api.Node, wide int) {
	t.Helper()
	// What has texts longer than it is wide has some of at most twice that: they go through a loop.
	mask := new(big.Int).Lsh(big.NewInt(1), uint(2*wide+2))
	mask.Sub(mask, big.NewInt(1))
	first := measure.First(n)
	var l lengths
	for range 3 {
		b := r.Intn(256)
		if list := measure.Sets(n); len(list) > 0 && r.Intn(4) > 0 {
			b = chanceByte(r, list[r.Intn(len(list))])
		}
		l = lengthsOf(n, b, mask)
		if got := first[b/64]>>(b%64)&1 == 1; got != (l.begin.Sign() != 0) {
			t.Errorf("%s: got %t of the byte %d", name(n), got, b)
		}
	}
	least, most := -1, l.all.BitLen()-1
	if l.all.Sign() != 0 {
		least = int(l.all.TrailingZeroBits())
	}
	if most > wide {
		most = -1
	}
	matches(t, n, first, least, most)
}

// chanceByte is one of the set, or next to one.
func chanceByte(r *rand.Rand, s api.Set) int {
	var list []int
	for b := range 256 {
		if s[b/64]>>(b%64)&1 == 1 {
			list = append(list, b, max(0, b-1), min(255, b+1))
		}
	}
	if len(list) == 0 {
		return r.Intn(256)
	}
	return list[r.Intn(len(list))]
}

// The third model counts in numbers without a bound, and has all nodes in a list.

func modelWide(n api.Node) *big.Int {
	num := func(i int) *big.Int { return big.NewInt(int64(i)) }
	if n.Kind != api.Rep {
		sum := num(1)
		for _, s := range n.Subs {
			sum.Add(sum, modelWide(s))
		}
		return sum
	}
	w := modelWide(n.Subs[0])
	if n.Max == -1 {
		return w.Add(num(2), w.Mul(w, num(n.Min+1)))
	}
	return w.Add(num(1), w.Mul(num(n.Max), w.Add(w, num(2))))
}

// nodesOf has all nodes of an expression, from the left to the right.
func nodesOf(n api.Node) []api.Node {
	list := []api.Node{n}
	for _, s := range n.Subs {
		list = append(list, nodesOf(s)...)
	}
	return list
}

// checkCounts holds an expression's counts and sets against the model.
func checkCounts(t *testing.T, n api.Node) {
	t.Helper()
	list := nodesOf(n)
	wide := modelWide(n)
	if most := big.NewInt(widest); wide.Cmp(most) > 0 {
		wide = most
	}
	counts(t, n, len(list), int(wide.Int64()))
	var sets []api.Set
	for _, m := range list {
		if m.Kind == api.Class {
			sets = append(sets, m.Set)
		}
	}
	classes(t, n, sets...)
}

// chanceNode is an expression of few brackets, seldom a very wide one.
func chanceNode(r *rand.Rand, deep, often int) api.Node {
	k := r.Intn(9)
	if deep == 0 {
		k %= 3
	}
	switch {
	case k == 0 && r.Intn(2) == 0:
		return empty
	case k < 3:
		return api.Node{Kind: api.Class, Set: chanceSet(r)}
	case k < 6:
		least, most := chanceTimes(r, often)
		return rep(chanceNode(r, deep-1, often), least, most)
	}
	n := api.Node{Kind: api.Cat + k%2}
	for range 2 + r.Intn(3)/2 {
		n.Subs = append(n.Subs, chanceNode(r, deep-1, often))
	}
	return n
}

func chanceTimes(r *rand.Rand, often int) (least, most int) {
	least = r.Intn(2) * r.Intn(often+1)
	switch r.Intn(3) {
	case 0:
		return least, -1
	case 1:
		return least, least
	}
	return least, least + r.Intn(often+1-least)
}

func chanceSet(r *rand.Rand) (s api.Set) {
	switch r.Intn(5) {
	case 0:
		return s
	case 1:
		return others(setOf(string([]byte{byte(r.Intn(256))})))
	}
	for range 1 + r.Intn(4) {
		b := r.Intn(256)
		s[b/64] |= 1 << (b % 64)
	}
	return s
}

// P9.1, P9.2: expressions by chance, narrow ones and wide ones.
func TestAgainstModels(t *testing.T) {
	r := rand.New(rand.NewSource(9))
	texts, none, endless, blank := 0, 0, 0, 0
	for i := range 20000 {
		n := chanceNode(r, i%7, []int{2, 3, 20}[i%3])
		checkCounts(t, n)
		if wide := measure.Wide(n); wide <= 150 {
			checkLengths(t, r, n, wide)
			switch least, most := measure.Length(n); {
			case least == -1:
				none++
			case most == -1:
				endless++
			case most == 0:
				blank++
			default:
				texts++
			}
		}
		if t.Failed() {
			t.FailNow()
		}
	}
	if min(texts, none, endless, blank) < 1000 {
		t.Errorf("%d have a longest text, %d none, %d no longest one, %d the empty one alone", texts, none, endless, blank)
	}
}

// P9.1: wide expressions by chance: many are wider than 2^30.
func TestWideByChance(t *testing.T) {
	r := rand.New(rand.NewSource(91))
	wide, less := 0, 0
	for range 2000 {
		n, _ := power(r.Intn(9))
		for range 1 + r.Intn(3) {
			least, most := chanceTimes(r, 20)
			n = rep(cat(n, chanceNode(r, 1, 20)), least, most)
		}
		checkCounts(t, n)
		if measure.Wide(n) == widest {
			wide++
		} else {
			less++
		}
		if t.Failed() {
			t.FailNow()
		}
	}
	if wide < 200 || less < 200 {
		t.Errorf("%d were as wide as may be, %d less", wide, less)
	}
}

// P9.1: a node anywhere in an expression that isn't right any more.
func TestSpoiltByChance(t *testing.T) {
	r := rand.New(rand.NewSource(92))
	for i := range 3000 {
		n := chanceNode(r, 1+i%5, 20)
		m := &n
		for len(m.Subs) > 0 && r.Intn(4) > 0 {
			m = &m.Subs[r.Intn(len(m.Subs))]
		}
		switch r.Intn(3) {
		case 0:
			m.Kind = []int{0, 6, -1}[r.Intn(3)]
		case 1:
			m.Min = -1 - r.Intn(3)
		default:
			m.Max = 21 + r.Intn(3)
		}
		wrong(t, n)
	}
}
