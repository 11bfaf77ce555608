package expand_test

import (
	"math/rand"
	"slices"
	"strings"
	"testing"

	"sieve/api"
	"sieve/ends"
	"sieve/expand"
	"sieve/measure"
	"sieve/regex"
	"sieve/sample"
	"sieve/show"
)

// The first model writes out as a text, with brackets round all, which leave no node of their own.

func textOf(n api.Node) string {
	var list []string
	for _, s := range n.Subs {
		list = append(list, "("+textOf(s)+")")
	}
	switch n.Kind {
	case api.Cat:
		return strings.Join(list, "")
	case api.Alt:
		return strings.Join(list, "|")
	case api.Rep:
		row := strings.Repeat(list[0], n.Min)
		if n.Max == -1 {
			return row + list[0] + "*"
		}
		return row + strings.Repeat("("+list[0]+"|)", n.Max-n.Min)
	}
	s, _ := show.Text(n)
	return s
}

// same: both match the same texts, the first one by layer 11, the other one, which may have more brackets, by the model; and by layer 9, if it can be asked.
func same(t *testing.T, n, plain api.Node) {
	t.Helper()
	for _, s := range []string{"", "a", "b", "aa", "ab", "aab", "abcab", "aaaabaaaaaaaaaaaaaaaaaaaaaa", "ababab\xffcabcaccb"} {
		for from, want := range sample.Ends(plain, s) {
			if got, e := ends.All(n, s, from); e != api.OK || !slices.Equal(got, want) {
				t.Errorf("%s of %q from %d ends at %d; written out at %d", name(n), s, from, got, want)
			}
		}
	}
	if !show.Right(plain) {
		return
	}
	least, most := measure.Length(n)
	plainLeast, plainMost := measure.Length(plain)
	if least != plainLeast || most != plainMost || measure.First(n) != measure.First(plain) || measure.None(n) != measure.None(plain) || measure.Nullable(n) != measure.Nullable(plain) {
		t.Errorf("%s, written out, is measured otherwise", name(n))
	}
}

// writesModel: with such a budget the expression is written out as the first model does.
func writesModel(t *testing.T, n api.Node, budget int) {
	t.Helper()
	want := sample.Of(textOf(n))
	expanded(t, n, budget, want)
	if size := sample.Size(want); size > measure.Wide(n) {
		t.Errorf("%s has %d nodes", name(n), size)
	}
	same(t, n, want)
}

// follow: so it is of an expression that isn't too wide, whose text in the model isn't too deep.
func follow(t *testing.T, n api.Node, budget int) (written bool) {
	t.Helper()
	if measure.Wide(n) > min(budget, 400) {
		refused(t, n, budget, api.ErrNodes)
		return false
	}
	if _, _, e := regex.Parse(textOf(n)); e == api.OK {
		writesModel(t, n, budget)
		return true
	}
	got, e := expand.Plain(n, budget)
	if e != api.OK || !expand.IsPlain(got) || sample.Size(got) > measure.Wide(n) {
		t.Errorf("%s: got %s, %d", name(n), name(got), e)
	}
	same(t, n, got)
	return true
}

// P13.1, P13.2: all expressions of few levels.
func TestAllSmallExpressions(t *testing.T) {
	t.Parallel()
	level := sample.Small()
	for i, x := range level {
		follow(t, x, 400)
		for _, often := range sample.Times() {
			follow(t, rep(x, often[0], often[1]), 400)
		}
		for j, y := range level {
			switch (i + j) % 4 {
			case 0:
				follow(t, cat(x, y), 400)
			case 1:
				follow(t, alt(x, y), 400)
			case 2:
				follow(t, rep(cat(y, x), i%3, 2+j%2), 400)
			}
		}
		if t.Failed() {
			t.FailNow()
		}
	}
}

// P13.1, P13.2: expressions by chance, with budgets near to how wide they are.
func TestAgainstModel(t *testing.T) {
	t.Parallel()
	r := rand.New(rand.NewSource(13))
	written, not := 0, 0
	for i := range 12000 {
		n := sample.Draw(r.Intn).Node(1+i%8, []int{2, 3, 20}[i%3])
		if !show.Right(n) {
			refused(t, n, r.Intn(401), api.ErrArg)
			continue
		}
		if follow(t, n, []int{400, measure.Wide(n) + r.Intn(5) - 2, r.Intn(401), 1 << 20}[r.Intn(4)]) {
			written++
		} else {
			not++
		}
		if t.Failed() {
			t.FailNow()
		}
	}
	if written < 5000 || not < 1000 {
		t.Errorf("%d were written out, %d weren't", written, not)
	}
}
