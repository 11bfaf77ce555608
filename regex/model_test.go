package regex_test

import (
	"math/rand"
	"regexp"
	"slices"
	"strconv"
	"strings"
	"testing"

	"sieve/api"
	"sieve/regex"
)

// The model goes byte by byte, without calls within calls, and gathers every place that is wrong; the first one counts.

var (
	wholeByte    = regexp.MustCompile("^(?:[a-zA-Z0-9 !\"#%&',/:;<=>@_`~]|\\\\x[0-9a-f]{2}|\\\\[nt|*+?()\\[\\]{}.\\\\^$-])$")
	begunByte    = regexp.MustCompile(`^\\(?:x[0-9a-f]?)?$`)
	wholeNumbers = regexp.MustCompile(`^[0-9]{1,2}(?:,(?:[0-9]{1,2})?)?$`)
	begunNumbers = regexp.MustCompile(`^(?:[0-9]{1,2}(?:,(?:[0-9]{1,2})?)?)?$`)
)

// What may stand where the model is.
const (
	atItem    = iota // an item, as no atom stands ahead
	atSign           // an item, or the sign of the one ahead
	inNumbers        // behind {
	inSet            // behind [
	atRange          // a range, or ]
	atHyphen         // a range, ], or the second byte of the range ahead
	atSecond         // the second byte of a range
)

type model struct {
	spot    int
	begun   string         // of a byte, or of numbers
	from    int            // where that began
	lo      byte           // of a range
	none    bool           // [^ stands ahead
	set     [256]bool      // of [ ]
	rows    [][][]api.Node // for all and for each open bracket, its cats' items
	badOnes []int
}

func modelParse(s string) (api.Node, int, api.Errno) {
	m := &model{rows: [][][]api.Node{{nil}}}
	m.all(s)
	if len(m.badOnes) > 0 {
		return api.Node{}, slices.Min(m.badOnes), api.ErrSyntax
	}
	return joined(m.rows[0]), 0, api.OK
}

func (m *model) all(s string) {
	for i := range len(s) {
		if !m.goOn(i, s[i]) {
			m.bad(i)
			m.askNumbers()
			return
		}
	}
	if m.spot > atSign || m.begun != "" || len(m.rows) > 1 {
		m.bad(len(s))
		m.askNumbers()
	}
}

func (m *model) bad(i int) { m.badOnes = append(m.badOnes, i) }

// goOn: does a text go on with this byte?
func (m *model) goOn(i int, b byte) bool {
	switch {
	case m.spot == inNumbers:
		return m.goOnInNumbers(i, b)
	case m.begun != "" || m.spot == atSecond:
		return m.goOnInByte(i, b)
	case m.spot == inSet && b == '^':
		m.none, m.spot = true, atRange
		return true
	case m.spot >= inSet && b == ']':
		m.endSet()
		return true
	case m.spot == atHyphen && b == '-':
		m.spot = atSecond
		return true
	case m.spot >= inSet:
		return m.goOnInByte(i, b)
	}
	return m.goOnOutside(i, b)
}

func (m *model) goOnOutside(i int, b byte) bool {
	row := &m.rows[len(m.rows)-1]
	cats := *row
	items := &cats[len(cats)-1]
	switch {
	case b == '(':
		if len(m.rows) > 12 {
			m.bad(i)
		}
		m.rows, m.spot = append(m.rows, [][]api.Node{nil}), atItem
	case b == ')' && len(m.rows) > 1:
		n := joined(cats)
		m.rows = m.rows[:len(m.rows)-1]
		m.add(n)
	case b == '|':
		*row, m.spot = append(cats, nil), atItem
	case b == '.':
		m.add(notClass(""))
	case b == '[':
		m.set, m.none, m.spot = [256]bool{}, false, inSet
	case m.spot == atSign && strings.IndexByte("*+?", b) >= 0:
		times := map[byte][2]int{'*': {0, -1}, '+': {1, -1}, '?': {0, 1}}[b]
		last := &(*items)[len(*items)-1]
		*last, m.spot = rep(*last, times[0], times[1]), atItem
	case m.spot == atSign && b == '{':
		m.spot = inNumbers
	default:
		return m.goOnInByte(i, b)
	}
	return true
}

// add puts an item behind those of the last cat.
func (m *model) add(n api.Node) {
	cats := m.rows[len(m.rows)-1]
	cats[len(cats)-1] = append(cats[len(cats)-1], n)
	m.spot = atSign
}

func (m *model) goOnInByte(i int, b byte) bool {
	if m.begun == "" {
		m.from = i
	}
	m.begun += string([]byte{b})
	if !wholeByte.MatchString(m.begun) {
		return begunByte.MatchString(m.begun)
	}
	value := valueOf(m.begun)
	m.begun = ""
	switch {
	case m.spot < inSet:
		m.add(class(string([]byte{value})))
	case m.spot == atSecond:
		if value < m.lo {
			m.bad(m.from)
		}
		for v := int(m.lo); v <= int(value); v++ {
			m.set[v] = true
		}
		m.spot = atRange
	default:
		m.set[value], m.lo, m.spot = true, value, atHyphen
	}
	return true
}

func valueOf(s string) byte {
	switch {
	case len(s) == 4:
		v, _ := strconv.ParseUint(s[2:], 16, 8)
		return byte(v)
	case s == `\n`:
		return 10
	case s == `\t`:
		return 9
	}
	return s[len(s)-1]
}

func (m *model) endSet() {
	var bytes []byte
	for v, in := range m.set {
		if in != m.none {
			bytes = append(bytes, byte(v))
		}
	}
	m.add(class(string(bytes)))
}

func (m *model) goOnInNumbers(i int, b byte) bool {
	if b == '}' && wholeNumbers.MatchString(m.begun) {
		m.askNumbers()
		least, most := timesOf(m.begun)
		cats := m.rows[len(m.rows)-1]
		items := cats[len(cats)-1]
		items[len(items)-1] = rep(items[len(items)-1], least, most)
		m.begun, m.spot = "", atItem
		return true
	}
	if m.begun == "" {
		m.from = i
	}
	more := m.begun + string([]byte{b})
	if !begunNumbers.MatchString(more) {
		return false
	}
	m.begun = more
	return true
}

// askNumbers gathers those that are too great, or too small, once no digit can follow.
func (m *model) askNumbers() {
	if m.spot != inNumbers {
		return
	}
	first, second, _ := strings.Cut(m.begun, ",")
	least, _ := strconv.Atoi(first)
	if least > 20 {
		m.bad(m.from)
	}
	if most, _ := strconv.Atoi(second); second != "" && (most > 20 || most < least) {
		m.bad(m.from + len(first) + 1)
	}
}

func timesOf(s string) (least, most int) {
	first, second, two := strings.Cut(s, ",")
	least, _ = strconv.Atoi(first)
	switch most, _ = strconv.Atoi(second); {
	case !two:
		most = least
	case second == "":
		most = -1
	}
	return least, most
}

// joined is the expression of some cats' items.
func joined(cats [][]api.Node) api.Node {
	var list []api.Node
	for _, items := range cats {
		switch len(items) {
		case 0:
			list = append(list, empty())
		case 1:
			list = append(list, items[0])
		default:
			list = append(list, cat(items...))
		}
	}
	if len(list) == 1 {
		return list[0]
	}
	return alt(list...)
}

func checkParse(t *testing.T, s string) bool {
	t.Helper()
	n, at, e := modelParse(s)
	if e == api.OK {
		reads(t, s, n)
	} else {
		wrong(t, s, at)
	}
	return e == api.OK
}

// P7.1 for all short texts over some bytes that matter.
func TestAllShortTexts(t *testing.T) {
	for _, c := range []struct {
		bytes string
		long  int
	}{
		{"a()|*", 7}, {"a(|*+?.[]{}", 4}, {"a{,}0123", 6}, {"b{,}29-", 6}, {"ab[]^-", 6}, {`x[]-^\1`, 6}, {`\xnt09afg`, 5}, {`a()[]{}|*.\^$-2`, 4},
	} {
		tryAll(t, c.bytes, "", c.long)
		if t.Failed() {
			t.FailNow()
		}
	}
}

func tryAll(t *testing.T, bytes, s string, more int) {
	checkParse(t, s)
	for i := 0; i < len(bytes) && more > 0 && !t.Failed(); i++ {
		tryAll(t, bytes, s+bytes[i:i+1], more-1)
	}
}

// P7.1 for all that may stand behind what matters.
func TestAllTails(t *testing.T) {
	open := strings.Repeat("(", 11)
	for _, head := range []string{"a{", "(a{1", "[b-", "[^b-\\x6", "a|[", open, open + "(", open + ")", "a{20,", "a{3,2", "a*", `[\`, `\x`, "[a-b", "a{9}"} {
		tryAll(t, "a(){}[],-3|*\\x16^", head, 3)
	}
}

// written by the grammar: texts and their expressions by chance, one beside the other.
type writer struct {
	r    *rand.Rand
	open int
}

func (w *writer) alt() (string, api.Node) {
	var texts []string
	var list []api.Node
	for range 1 + w.r.Intn(1+w.r.Intn(4)) {
		s, n := w.cat()
		texts, list = append(texts, s), append(list, n)
	}
	if len(list) == 1 {
		return texts[0], list[0]
	}
	return strings.Join(texts, "|"), alt(list...)
}

func (w *writer) cat() (string, api.Node) {
	text := ""
	var list []api.Node
	for range w.r.Intn(4) {
		s, n := w.item()
		text, list = text+s, append(list, n)
	}
	switch len(list) {
	case 0:
		return "", empty()
	case 1:
		return text, list[0]
	}
	return text, cat(list...)
}

func (w *writer) item() (string, api.Node) {
	s, n := w.atom()
	least := w.r.Intn(21)
	most := least + w.r.Intn(21-least)
	switch w.r.Intn(14) {
	case 0:
		return s + "*", rep(n, 0, -1)
	case 1:
		return s + "+", rep(n, 1, -1)
	case 2:
		return s + "?", rep(n, 0, 1)
	case 3:
		return s + "{" + w.number(least) + "}", rep(n, least, least)
	case 4:
		return s + "{" + w.number(least) + ",}", rep(n, least, -1)
	case 5:
		return s + "{" + w.number(least) + "," + w.number(most) + "}", rep(n, least, most)
	}
	return s, n
}

func (w *writer) number(n int) string {
	list := spellings(n)
	return list[w.r.Intn(len(list))]
}

func (w *writer) atom() (string, api.Node) {
	switch k := w.r.Intn(12); {
	case k < 5 && w.open < 12:
		w.open++
		s, n := w.alt()
		w.open--
		return "(" + s + ")", n
	case k == 5:
		return ".", notClass("")
	case k < 9:
		return w.set()
	}
	v, s := w.byte()
	return s, class(string([]byte{v}))
}

func (w *writer) set() (string, api.Node) {
	text, bytes := "", ""
	for range w.r.Intn(4) {
		lo, s := w.byte()
		hi, z := w.byte()
		if hi < lo || w.r.Intn(2) == 0 {
			text, bytes = text+s, bytes+string([]byte{lo})
			continue
		}
		text += s + "-" + z
		for v := int(lo); v <= int(hi); v++ {
			bytes += string([]byte{byte(v)})
		}
	}
	if w.r.Intn(2) == 0 {
		return "[" + text + "]", class(bytes)
	}
	return "[^" + text + "]", notClass(bytes)
}

// byte is a byte in one of the ways in which it may be written.
func (w *writer) byte() (byte, string) {
	v := byte(w.r.Intn(256))
	s := string([]byte{v})
	ways := []string{`\x` + hex[v/16:v/16+1] + hex[v%16:v%16+1]}
	if strings.Contains(asItself, s) {
		ways = append(ways, s)
	}
	if strings.Contains(signs, s) {
		ways = append(ways, `\`+s)
	}
	if v == 9 || v == 10 {
		ways = append(ways, `\`+"tn"[v-9:v-8])
	}
	return v, ways[w.r.Intn(len(ways))]
}

// P7.1 of texts by the grammar, and of those with some bytes put in, left out, or changed.
func TestAgainstGrammarAndModel(t *testing.T) {
	r := rand.New(rand.NewSource(7))
	right, wrongOnes := 0, 0
	for range 6000 {
		w := writer{r: r}
		s, n := w.alt()
		reads(t, s, n)
		for range 4 {
			s = spoilText(r, s)
			if checkParse(t, s) {
				right++
			} else {
				wrongOnes++
			}
		}
		if t.Failed() {
			t.FailNow()
		}
	}
	if right < 1000 || wrongOnes < 1000 {
		t.Errorf("%d texts were right, %d wrong", right, wrongOnes)
	}
}

func spoilText(r *rand.Rand, s string) string {
	const some = "a(){}[]|*+?.,-^\\xnt0123$\n\x00\xff"
	i, k := r.Intn(len(s)+1), r.Intn(len(some))
	j := min(len(s), i+r.Intn(2))
	switch r.Intn(4) {
	case 0:
		return s[:i] + s[j:]
	case 1:
		return s[:i]
	}
	return s[:i] + some[k:k+1] + s[j:]
}

// nodesOf has all nodes of an expression, so that each can be changed.
func nodesOf(n *api.Node) []*api.Node {
	list := []*api.Node{n}
	for i := range n.Subs {
		list = append(list, nodesOf(&n.Subs[i])...)
	}
	return list
}

func modelDepth(n api.Node) int {
	deepest := 0
	for _, s := range n.Subs {
		deepest = max(deepest, modelDepth(s))
	}
	return 1 + deepest
}

// chanceNode: of any kind, with up to seven Subs that may have some themselves.
func chanceNode(r *rand.Rand, deep int) api.Node {
	n := api.Node{Kind: r.Intn(8) - 1, Min: r.Intn(3), Max: r.Intn(3) - 1, Set: api.Set{uint64(r.Intn(2)), 0, 0, uint64(r.Intn(2)) << 63}}
	if deep > 0 {
		for range r.Intn(8) {
			n.Subs = append(n.Subs, chanceNode(r, r.Intn(deep)))
		}
	}
	return n
}

// P7.2 against the model: of any nodes, with one of them changed, wherever it stands.
func TestSameAndDepthAgainstModel(t *testing.T) {
	r := rand.New(rand.NewSource(72))
	for range 3000 {
		n := chanceNode(r, 7)
		if got, want := regex.Depth(n), modelDepth(n); got != want {
			t.Fatalf("%+v: got %d, want %d", n, got, want)
		}
		other := copied(n)
		if !regex.Same(n, other) {
			t.Fatalf("%+v isn't as its copy", n)
		}
		all := nodesOf(&other)
		changed := all[r.Intn(len(all))]
		switch r.Intn(6) {
		case 0:
			changed.Kind++
		case 1:
			changed.Min++
		case 2:
			changed.Max--
		case 3:
			changed.Set[r.Intn(4)] ^= 1 << r.Intn(64)
		case 4:
			changed.Subs = append(changed.Subs, api.Node{})
		case 5:
			*changed = chanceNode(r, 2)
		}
		if got, want := regex.Same(n, other), equal(n, other); got != want || regex.Same(other, n) != want {
			t.Fatalf("%+v and %+v: got %v, want %v", n, other, got, want)
		}
	}
}
