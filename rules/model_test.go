package rules_test

import (
	"math/rand"
	"strings"
	"testing"

	"sieve/api"
	"sieve/rules"
)

// The model of Split takes the file apart first, and gathers every place that is wrong; the first one of a line counts.

// badOfName has every place of a line at which no name goes on.
func badOfName(line string) (places []int) {
	name, _, found := strings.Cut(line, ":")
	for i := range len(name) {
		if !strings.ContainsAny(name[i:i+1], "abcdefghijklmnopqrstuvwxyzABCDEFGHIJKLMNOPQRSTUVWXYZ0123456789_") || name[i] >= 128 {
			places = append(places, i)
		}
	}
	if len(name) > 12 {
		places = append(places, 12)
	}
	if name == "" {
		places = append(places, 0)
	}
	if !found {
		places = append(places, len(line))
	}
	return places
}

func modelSplit(s string) (list []rules.Line, at int, e api.Errno) {
	if len(s) > 1000 {
		return nil, 1000, api.ErrSyntax
	}
	start, names := 0, map[string]int{}
	for _, l := range strings.Split(s, "\n") {
		if l != "" && !strings.HasPrefix(l, "#") {
			if bad := badOfName(l); len(bad) > 0 {
				least := bad[0]
				for _, b := range bad {
					least = min(least, b)
				}
				return nil, start + least, api.ErrSyntax
			}
			name, text, _ := strings.Cut(l, ":")
			names[name]++
			if names[name] > 1 || len(list) >= 8 {
				return nil, start, api.ErrSyntax
			}
			list = append(list, rules.Line{Name: name, Text: text, At: start + len(name) + 1})
		}
		start += len(l) + 1
	}
	if list == nil {
		return nil, len(s), api.ErrSyntax
	}
	return list, 0, api.OK
}

func checkSplit(t *testing.T, s string) bool {
	t.Helper()
	list, at, e := modelSplit(s)
	if e == api.OK {
		has(t, s, list...)
	} else {
		wrong(t, s, at)
	}
	return e == api.OK
}

// P6.1 for all short files over the bytes that matter.
func TestAllShortFiles(t *testing.T) {
	const bytes = "ab:#\n!"
	row := []string{""}
	for range 6 {
		var next []string
		for _, s := range row {
			checkSplit(t, s)
			for _, b := range bytes {
				next = append(next, s+string(b))
			}
		}
		row = next
	}
	for _, s := range row {
		checkSplit(t, s)
	}
}

func pick(r *rand.Rand, list ...string) string { return list[r.Intn(len(list))] }

// chanceName: most often one that may be, of few, so that some come twice.
func chanceName(r *rand.Rand) string {
	if r.Intn(12) == 0 {
		return pick(r, "", "abcdefghijklm", "a!", "é", "a b", "#", "abcdefghijkl!", "\r", "a\x00b", "!bcdefghijklmn")
	}
	return pick(r, "abcdefghijkl", "A", "_", "0", "if", "id", "x1", "num", "ws", "B9_") + pick(r, "", "", "0", "1", "2")
}

func chanceText(r *rand.Rand) string {
	return strings.Repeat(pick(r, "", "x", ":", "#", "[a-z]", "\x00\xff", "a|b", " \r"), r.Intn(1+r.Intn(30)))
}

// P6.1 against the model, by chance.
func TestSplitAgainstModel(t *testing.T) {
	r := rand.New(rand.NewSource(6))
	right := 0
	for range 30000 {
		var b strings.Builder
		for range r.Intn(12) {
			switch r.Intn(8) {
			case 0:
				b.WriteString(pick(r, "", "#", "# a:x", "#\r", "\r"))
			default:
				b.WriteString(chanceName(r) + pick(r, ":", ":", ":", ":", ":", ":", ":", ":", ":", ":", ":", "", ";", "::") + chanceText(r))
			}
			b.WriteString(pick(r, "\n", "\n", "\n", "\n\n"))
		}
		s := b.String()
		if r.Intn(3) == 0 {
			s = strings.TrimSuffix(s, "\n")
		}
		if checkSplit(t, s) {
			right++
		}
		if t.Failed() {
			t.FailNow()
		}
	}
	if right < 1000 {
		t.Errorf("only %d files were right", right)
	}
}

// P6.2 by the words: a file can have these rules, if the file that they make has just them.
func TestJoinAgainstModel(t *testing.T) {
	r := rand.New(rand.NewSource(62))
	right := 0
	for range 30000 {
		var list []rules.Line
		for range r.Intn(11) {
			l := line(chanceName(r), chanceText(r), r.Intn(2000)-1000)
			if r.Intn(40) == 0 {
				l.Text += pick(r, "\n", "\nz:", "\n#")
			}
			if r.Intn(40) == 0 {
				l.Text += strings.Repeat("y", r.Intn(1100))
			}
			list = append(list, l)
		}
		whole := written(list)
		got, _, e := modelSplit(whole)
		if e != api.OK || !sameRules(got, list) {
			refused(t, list...)
			continue
		}
		right++
		joins(t, whole, list...)
		back, _, _ := rules.Split(whole)
		if !sameRules(back, list) { // P6.3
			t.Fatalf("%+v: got %+v", list, back)
		}
	}
	if right < 1000 {
		t.Errorf("only %d lists were right", right)
	}
}

func sameRules(a, b []rules.Line) bool {
	if len(a) != len(b) {
		return false
	}
	for i := range a {
		if a[i].Name != b[i].Name || a[i].Text != b[i].Text {
			return false
		}
	}
	return true
}

// P6.2 against the model: names by chance, of all bytes.
func TestNameAgainstModel(t *testing.T) {
	r := rand.New(rand.NewSource(63))
	for range 20000 {
		s := chanceName(r)
		if r.Intn(2) == 0 {
			b := []byte(s + "aa")
			b[r.Intn(len(b))] = byte(r.Intn(256))
			s = string(b)
		}
		want := len(badOfName(s+":")) == 0 && !strings.Contains(s, ":")
		if got := rules.Name(s); got != want {
			t.Fatalf("Name(%q): got %v, want %v", s, got, want)
		}
	}
}
