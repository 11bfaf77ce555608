package regex

import (
	"strings"

	"sieve/api"
	"sieve/bytes256"
)

const (
	signs  = `|*+?()[]{}.\^$-` // may stand behind a backslash
	digits = "0123456789abcdef"
	many   = -1 // times: as often as may be
)

// reader goes through a text from its front; it panics with a place to give up there.
type reader struct {
	s    string
	at   int
	open int // round brackets
}

// place is where a text is wrong.
type place int

// whole is all of the text, or where it is wrong.
func (r *reader) whole() (n api.Node, at int, e api.Errno) {
	defer func() {
		switch p := recover().(type) {
		case nil:
		case place:
			n, at, e = api.Node{}, int(p), api.ErrSyntax
		default:
			panic(p)
		}
	}()
	n = r.alt()
	if r.at < len(r.s) {
		panic(place(r.at))
	}
	return n, 0, api.OK
}

func (r *reader) alt() api.Node {
	list := []api.Node{r.cat()}
	for r.take('|') {
		list = append(list, r.cat())
	}
	if len(list) == 1 {
		return list[0]
	}
	return api.Node{Kind: api.Alt, Subs: list}
}

func (r *reader) cat() api.Node {
	var list []api.Node
	for r.at < len(r.s) && !r.next('|') && !r.next(')') {
		list = append(list, r.item())
	}
	switch len(list) {
	case 0:
		return api.Node{Kind: api.Empty}
	case 1:
		return list[0]
	}
	return api.Node{Kind: api.Cat, Subs: list}
}

func (r *reader) item() api.Node {
	n := r.atom()
	least, most, ok := r.times()
	if !ok {
		return n
	}
	return api.Node{Kind: api.Rep, Min: least, Max: most, Subs: []api.Node{n}}
}

// times is what a sign behind an atom says, if there is one.
func (r *reader) times() (least, most int, ok bool) {
	switch {
	case r.take('*'):
		return 0, many, true
	case r.take('+'):
		return 1, many, true
	case r.take('?'):
		return 0, 1, true
	case r.take('{'):
		least, most = r.numbers()
		return least, most, true
	}
	return 0, 0, false
}

// numbers is what stands behind {, with the } behind it.
func (r *reader) numbers() (least, most int) {
	least = r.number(0)
	most = least
	if r.take(',') {
		if r.take('}') {
			return least, many
		}
		most = r.number(least)
	}
	r.must('}')
	return least, most
}

// number is a number that isn't below the least one that may stand there.
func (r *reader) number(least int) int {
	from, n := r.at, 0
	for r.at < len(r.s) && r.at < from+2 && '0' <= r.s[r.at] && r.s[r.at] <= '9' {
		n = 10*n + int(r.s[r.at]-'0')
		r.at++
	}
	if r.at == from || n < least || n > api.MaxRepeat {
		panic(place(from))
	}
	return n
}

func (r *reader) atom() api.Node {
	switch {
	case r.next('('):
		return r.group()
	case r.take('.'):
		return class(bytes256.Of(0, 255))
	case r.take('['):
		return class(r.set())
	}
	return class(bytes256.One(r.byte()))
}

func class(a api.Set) api.Node {
	return api.Node{Kind: api.Class, Set: a}
}

func (r *reader) group() api.Node {
	if r.open == api.MaxDepth {
		panic(place(r.at))
	}
	r.must('(')
	r.open++
	n := r.alt()
	r.must(')')
	r.open--
	return n
}

// set is what stands behind [, with the ] behind it.
func (r *reader) set() api.Set {
	others := r.take('^')
	var a api.Set
	for !r.take(']') {
		a = bytes256.Or(a, r.span())
	}
	if others {
		return bytes256.Not(a)
	}
	return a
}

func (r *reader) span() api.Set {
	lo := r.byte()
	hi := lo
	if r.take('-') {
		from := r.at
		hi = r.byte()
		if hi < lo {
			panic(place(from))
		}
	}
	return bytes256.Of(lo, hi)
}

func (r *reader) byte() byte {
	if r.take('\\') {
		return r.escape()
	}
	b := r.get()
	if len(bytes256.Escape(b)) != 1 {
		panic(place(r.at - 1))
	}
	return b
}

// escape is what stands behind a backslash.
func (r *reader) escape() byte {
	switch b := r.get(); {
	case b == 'x':
		high := r.digit()
		return high<<4 | r.digit()
	case b == 'n':
		return '\n'
	case b == 't':
		return '\t'
	case strings.IndexByte(signs, b) >= 0:
		return b
	}
	panic(place(r.at - 1))
}

// digit is a digit of sixteen.
func (r *reader) digit() byte {
	n := strings.IndexByte(digits, r.get())
	if n < 0 {
		panic(place(r.at - 1))
	}
	return byte(n)
}

// get goes behind a byte, whichever stands there.
func (r *reader) get() byte {
	if r.at == len(r.s) {
		panic(place(r.at))
	}
	r.at++
	return r.s[r.at-1]
}

// next: does that byte stand there?
func (r *reader) next(b byte) bool {
	return r.at < len(r.s) && r.s[r.at] == b
}

// take goes behind that byte, if it stands there.
func (r *reader) take(b byte) bool {
	ok := r.next(b)
	if ok {
		r.at++
	}
	return ok
}

// must goes behind that byte, or gives up.
func (r *reader) must(b byte) {
	if !r.take(b) {
		panic(place(r.at))
	}
}
