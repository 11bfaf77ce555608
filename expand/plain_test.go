package expand_test

import (
	"math"
	"testing"

	"sieve/api"
	"sieve/expand"
	"sieve/sample"
)

// P13.1: plain ones of each kind, within one another.
func TestPlain(t *testing.T) {
	list := []api.Node{empty, nothing, a, anyByte}
	for _, x := range some() {
		list = append(list, x, star(x))
		for _, y := range some() {
			list = append(list, cat(x, y), alt(x, y), cat(x, y, x, a), alt(a, y, x, empty))
		}
	}
	for _, n := range list {
		plain(t, n)
		plain(t, cat(a, alt(b, star(cat(n, n)))))
		for _, times := range [][2]int{{0, 0}, {0, 1}, {1, 1}, {1, -1}, {2, -1}, {0, 2}, {3, 20}} {
			notPlain(t, rep(n, times[0], times[1]))
		}
	}
}

// P13.1: a Rep that isn't from 0 to -1, by one number or both, at any place and depth.
func TestCounted(t *testing.T) {
	for _, times := range [][2]int{{0, 0}, {0, 1}, {1, 1}, {0, 20}, {20, 20}, {1, -1}, {2, -1}, {20, -1}, {-1, -1}, {0, -2}, {-1, 0}, {1, 0}, {math.MinInt, -1}, {0, math.MaxInt}, {1 << 32, -1}, {0, 1<<32 - 1}} {
		for _, x := range []api.Node{empty, nothing, a, cat(a, b), star(a)} {
			for _, n := range sample.Holders(rep(x, times[0], times[1])) {
				notPlain(t, n)
			}
		}
	}
}

// P13.1: that isn't plain stands before, between or behind many that are.
func TestOneAmongMany(t *testing.T) {
	for _, n := range []api.Node{{}, odd, rep(a, 1, -1), rep(a, 0, 1), cat(a), {Kind: api.Alt}, {Kind: api.Class, Max: -1}, {Kind: api.Empty, Subs: []api.Node{a}}, cat(a, star(alt(b, rep(b, 2, 2)))), star(odd)} {
		for _, at := range []int{0, 1, 500, 998, 999} {
			for _, of := range []func(...api.Node) api.Node{cat, alt} {
				for _, x := range []api.Node{empty, a, star(cat(a, b))} {
					row := rowOf(x, 1000)
					plain(t, of(row...))
					row[at] = n
					notPlain(t, of(row...))
					notPlain(t, star(star(of(a, of(row...)))))
				}
			}
		}
	}
}

// P13.1: an expression that is as deep as may be handed in.
func TestDeep(t *testing.T) {
	t.Parallel()
	for _, wrap := range []func(api.Node) api.Node{
		star,
		func(n api.Node) api.Node { return cat(n, a) },
		func(n api.Node) api.Node { return alt(empty, star(b), n) },
	} {
		for _, deep := range []int{14, 1000, 1 << 20} {
			n := nested(a, deep, wrap)
			if !expand.IsPlain(n) || !expand.IsPlain(cat(a, n, b)) {
				t.Errorf("what is plain isn't so %d deep", deep)
			}
			refusedWholly(t, n)
			n = nested(rep(a, 1, -1), deep, wrap)
			if expand.IsPlain(n) {
				t.Errorf("what isn't plain is so %d deep", deep)
			}
			refusedWholly(t, n)
		}
	}
	n := nested(a, 1<<20, func(n api.Node) api.Node { return api.Node{Subs: []api.Node{n}} })
	if expand.IsPlain(n) || expand.IsPlain(star(n)) {
		t.Error("what has no kind is plain")
	}
	refusedWholly(t, n)
	if !expand.IsPlain(nested(empty, 1<<21, star)) {
		t.Error("what is plain isn't so 2^21 deep")
	}
}

// refusedWholly: what is too deep, or has no end, isn't right.
func refusedWholly(t *testing.T, n api.Node) {
	t.Helper()
	for _, budget := range []int{-1, 400, math.MaxInt} {
		if got, e := expand.Plain(n, budget); e != api.ErrArg || got.Kind != 0 || got.Subs != nil {
			t.Errorf("got %d", e)
		}
	}
}

// P13.1: one that holds itself is no plain one, wherever it does; each call ends.
func TestEndless(t *testing.T) {
	for _, kind := range []int{api.Cat, api.Alt, api.Rep} {
		for own := range 3 {
			subs := []api.Node{a, star(b), cat(a, star(alt(a, b)))}
			if kind == api.Rep {
				subs = subs[:1]
				own = 0
			}
			subs[own] = api.Node{Kind: kind}
			if kind == api.Rep {
				subs[own].Max = -1
			}
			subs[own].Subs = subs
			for _, n := range []api.Node{subs[own], star(subs[own]), cat(a, alt(b, subs[own])), cat(subs[own], subs[own])} {
				if expand.IsPlain(n) {
					t.Errorf("what holds itself is plain")
				}
				refusedWholly(t, n)
			}
		}
	}
	far := nested(star(a), 1000, star)
	last := &far
	for last.Subs[0].Kind == api.Rep {
		last = &last.Subs[0]
	}
	plain(t, far)
	*last = star(far)
	if expand.IsPlain(far) {
		t.Error("what holds itself far below is plain")
	}
}

// P13.1: a list that stands in many places, but not in itself, is asked once, and an expression of it is plain.
func TestShared(t *testing.T) {
	for _, of := range []func(...api.Node) api.Node{cat, alt} {
		plain(t, nested(star(a), 1000, func(n api.Node) api.Node { return of(n, n) }))
		plain(t, nested(star(a), 1000, func(n api.Node) api.Node { return of(n, star(n), cat(n, b)) }))
		notPlain(t, nested(rep(a, 0, 0), 20, func(n api.Node) api.Node { return of(n, n) }))
	}
	whole := []api.Node{a, b, star(c), {}}
	plain(t, cat(cat(whole[:2]...), cat(whole[:3]...), cat(whole[:2]...), cat(whole[1:3]...)))
	notPlain(t, cat(cat(whole[:3]...), cat(whole...)))
	notPlain(t, cat(cat(whole[1:3]...), cat(whole[1:]...)))
	whole[2].Subs = whole[:1]
	plain(t, cat(whole[:3]...))
	whole[3] = alt(whole[:3]...)
	plain(t, cat(whole...))
	whole[0] = star(cat(whole[:2]...))
	notPlain(t, cat(whole[:2]...))
	notPlain(t, cat(whole...))
}
