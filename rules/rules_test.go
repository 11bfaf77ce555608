package rules_test

import (
	"slices"
	"strings"
	"testing"

	"sieve/api"
	"sieve/rules"
)

func line(name, text string, at int) rules.Line {
	return rules.Line{Name: name, Text: text, At: at}
}

// has: the file has these rules.
func has(t *testing.T, s string, want ...rules.Line) {
	t.Helper()
	list, at, e := rules.Split(s)
	if e != api.OK || at != 0 || !slices.Equal(list, want) {
		t.Errorf("%q: got %+v, %d, %d, want %+v", s, list, at, e, want)
	}
}

// wrong: the file is wrong at this place.
func wrong(t *testing.T, s string, want int) {
	t.Helper()
	if list, at, e := rules.Split(s); e != api.ErrSyntax || at != want || len(list) != 0 {
		t.Errorf("%q: got %+v, %d, %d, want ErrSyntax at %d", s, list, at, e, want)
	}
}

// joins: the rules make this file.
func joins(t *testing.T, want string, list ...rules.Line) {
	t.Helper()
	if s, e := rules.Join(list); e != api.OK || s != want {
		t.Errorf("%+v: got %q, %d, want %q", list, s, e, want)
	}
}

// refused: no file can have these rules.
func refused(t *testing.T, list ...rules.Line) {
	t.Helper()
	if s, e := rules.Join(list); e != api.ErrArg || s != "" {
		t.Errorf("%+v: got %q, %d, want ErrArg", list, s, e)
	}
}

// many are the rules a, b and so on, each with the text x.
func many(n int) (list []rules.Line) {
	for i := range n {
		list = append(list, line(string(rune('a'+i)), "x", 4*i+2))
	}
	return list
}

// written is the file of these rules, put together by hand.
func written(list []rules.Line) (s string) {
	for _, l := range list {
		s += l.Name + ":" + l.Text + "\n"
	}
	return s
}

func TestDocExamples(t *testing.T) {
	has(t, "# x\nid:[a-z]+\n", line("id", "[a-z]+", 7))
	wrong(t, "id[a]", 2)
}

// P6.1: the rules in order, and where their texts begin.
func TestRules(t *testing.T) {
	a, b := line("a", "x", 2), line("b", "yy", 6)
	has(t, "a:x", a)
	has(t, "a:x\n", a)
	has(t, "a:x\nb:yy", a, b)
	has(t, "a:x\nb:yy\n", a, b)
	has(t, "b:x\na:yy\n", line("b", "x", 2), line("a", "yy", 6))
	has(t, "a:x\nA:x\n_:x\n0:x\n", a, line("A", "x", 6), line("_", "x", 10), line("0", "x", 14))
	has(t, "id:[a-z]+\nnum:[0-9]+\nws:[ \\t]+\n", line("id", "[a-z]+", 3), line("num", "[0-9]+", 14), line("ws", "[ \\t]+", 24))
}

// P6.1: a line without bytes, or whose first byte is #, tells nothing.
func TestLinesThatTellNothing(t *testing.T) {
	has(t, "\na:x", line("a", "x", 3))
	has(t, "\n\n\na:x\n\n\n", line("a", "x", 5))
	has(t, "#\na:x", line("a", "x", 4))
	has(t, "a:x\n#", line("a", "x", 2))
	has(t, "a:x\n#b:y", line("a", "x", 2))
	has(t, "#a:x\na:y\n#a:z\n", line("a", "y", 7))
	has(t, "## b: c!\x00\xff\n\na:x\n# !\n\nb:y", line("a", "x", 14), line("b", "y", 23))
	has(t, "a:x\n"+strings.Repeat("#\n", 300)+"b:y\n", line("a", "x", 2), line("b", "y", 606))
	// Only where it stands first.
	wrong(t, " #", 0)
	wrong(t, "a#:x", 1)
	has(t, "a:#x\nb:x#", line("a", "#x", 2), line("b", "x#", 7))
}

// P6.1: all bytes up to the line's end are the text, none of them too.
func TestTexts(t *testing.T) {
	has(t, "a:", line("a", "", 2))
	has(t, "a:\n", line("a", "", 2))
	has(t, "a:\nb:\nc:", line("a", "", 2), line("b", "", 5), line("c", "", 8))
	has(t, "a::", line("a", ":", 2))
	has(t, "a:b:c\n", line("a", "b:c", 2))
	has(t, "a: x \t\n", line("a", " x \t", 2))
	has(t, "a:x\r\nb:y\r", line("a", "x\r", 2), line("b", "y\r", 7))
	has(t, "a:(\x00\xff\x80ä", line("a", "(\x00\xff\x80ä", 2))
	has(t, "a:[b-a]{3,2}", line("a", "[b-a]{3,2}", 2))
}

// P6.1: behind all, the file's end, if there is no rule.
func TestNoRule(t *testing.T) {
	wrong(t, "", 0)
	wrong(t, "\n", 1)
	wrong(t, "\n\n\n", 3)
	wrong(t, "#", 1)
	wrong(t, "#\n", 2)
	wrong(t, "# a:x\n\n#b:y", 11)
	wrong(t, "# a:x\n\n#b:y\n", 12)
	wrong(t, strings.Repeat("\n", 1000), 1000)
	wrong(t, "#"+strings.Repeat("x", 999), 1000)
}

// P6.1: the byte at which no name goes on.
func TestBadNames(t *testing.T) {
	wrong(t, ":", 0)
	wrong(t, ":x", 0)
	wrong(t, ":\n", 0)
	wrong(t, "::", 0)
	wrong(t, "a:x\n:\n", 4)
	wrong(t, "a", 1)
	wrong(t, "a\n", 1)
	wrong(t, "a\n:x", 1)
	wrong(t, "abc\nd:x", 3)
	wrong(t, "a:x\nbc", 6)
	wrong(t, "a:x\nbc\n", 6)
	wrong(t, " a:x", 0)
	wrong(t, "a :x", 1)
	wrong(t, "\ta:x", 0)
	wrong(t, "\r\n", 0)
	wrong(t, "a\r\n", 1)
	wrong(t, "a:x\n\r\n", 4)
	wrong(t, "a-b:x", 1)
	wrong(t, "äb:x", 0)
	wrong(t, "a\x00:x", 1)
	// The first wrong line counts, and its first wrong byte.
	wrong(t, "a!?:x\nb", 1)
	wrong(t, "a:x\nb!:x\n!:x", 5)
	wrong(t, "# !\n\na:x\nbb$:\n:\n", 11)
}

// P6.1: a name's bytes, asked one by one at each of its first places.
func TestBytesOfNames(t *testing.T) {
	const good = "abcdefghijklmnopqrstuvwxyzABCDEFGHIJKLMNOPQRSTUVWXYZ0123456789_"
	for b := range 256 {
		name := string([]byte{byte(b)})
		ok := strings.Contains(good, name)
		if rules.Name(name) != ok || rules.Name("a"+name) != ok || rules.Name(name+"a") != ok {
			t.Errorf("Name with the byte %d isn't %v", b, ok)
		}
		switch {
		case ok:
			has(t, name+":x", line(name, "x", 2))
			has(t, "a"+name+":x", line("a"+name, "x", 3))
			joins(t, name+":x\n", line(name, "x", 0))
			continue
		case b == ':':
			wrong(t, name+":x", 0)
			has(t, "a"+name+":x", line("a", ":x", 2))
		case b == '\n':
			has(t, name+"b:x", line("b", "x", 3))
			wrong(t, "a"+name+"b:x", 1)
		case b == '#':
			wrong(t, name+":x", 3)
			wrong(t, "a"+name+":x", 1)
		default:
			wrong(t, name+":x", 0)
			wrong(t, "a"+name+":x", 1)
		}
		refused(t, line(name, "x", 0))
		refused(t, line("a"+name, "x", 0))
	}
}

// P6.1, P6.2: a name has 1 to 12 bytes.
func TestLengthsOfNames(t *testing.T) {
	for n := range 40 {
		name := strings.Repeat("k", n)
		if got, want := rules.Name(name), n >= 1 && n <= 12; got != want {
			t.Errorf("Name of %d bytes: got %v, want %v", n, got, want)
		}
	}
	const twelve = "abcDEF_45678"
	has(t, twelve+":x", line(twelve, "x", 13))
	has(t, "a:x\n"+twelve+":", line("a", "x", 2), line(twelve, "", 17))
	joins(t, twelve+":x\n", line(twelve, "x", 0))
	refused(t, line(twelve+"9", "x", 0))
	refused(t, line("", "x", 0))
	for _, rest := range []string{"9:x", "9", "!:x", "\x00", "99", "#", " :x", "9!:x"} {
		wrong(t, twelve+rest, 12)
		wrong(t, "a:x\n"+twelve+rest+"\nb:y", 16)
	}
	// The line's end stands where the 13th byte would.
	wrong(t, twelve, 12)
	wrong(t, twelve+"\n", 12)
	wrong(t, twelve[:11], 11)
	wrong(t, twelve[:11]+"!!", 11)
	wrong(t, strings.Repeat("k", 1000), 12)
}

// P6.1: a name that a rule ahead has is wrong at the line's first byte.
func TestNamesTwice(t *testing.T) {
	wrong(t, "a:x\na:y", 4)
	wrong(t, "a:x\na:x\n", 4)
	wrong(t, "a:\na:", 3)
	wrong(t, "a:x\nb:y\nc:z\nb:w\n!", 12)
	wrong(t, "a:x\n# a\n\na:y", 9)
	wrong(t, "abc:x\nab:x\nabc:x\n", 11)
	has(t, "abc:x\nab:x\na:x\nABC:x\n", line("abc", "x", 4), line("ab", "x", 9), line("a", "x", 13), line("ABC", "x", 19))
	// What is asked of the name itself comes ahead.
	wrong(t, "a:x\na!:y", 5)
	wrong(t, "a:x\na", 5)
	wrong(t, "a:x\na\n", 5)
	wrong(t, "abcdefghijkl:\nabcdefghijklm:\n", 26)
}

// P6.1: behind 8 rules there is no other one.
func TestNinthRule(t *testing.T) {
	eight := written(many(8))
	has(t, eight, many(8)...)
	has(t, eight[:31], many(8)...)
	has(t, eight+"\n# i:x\n\n#", many(8)...)
	wrong(t, eight+"i:x", 32)
	wrong(t, eight+"i:x\n", 32)
	wrong(t, eight+"i:", 32)
	wrong(t, eight+"\n# \ni:x\n!", 36)
	wrong(t, eight+"a:x\n", 32)
	// The name is asked ahead.
	wrong(t, eight+"i", 33)
	wrong(t, eight+"i\n", 33)
	wrong(t, eight+"i!:x", 33)
	wrong(t, eight+"!", 32)
	wrong(t, eight+":x", 32)
	wrong(t, eight+"a!:x", 33)
	wrong(t, eight+"a\n", 33)
	wrong(t, eight+"abcdefghijklm:x", 44)
	wrong(t, written(many(9)), 32)
}

// P6.1: ahead of all, the place 1000, if the file is longer.
func TestLongFiles(t *testing.T) {
	x := strings.Repeat("x", 1100)
	has(t, "a:"+x[:998], line("a", x[:998], 2))
	has(t, "a:"+x[:997]+"\n", line("a", x[:997], 2))
	has(t, "a:"+strings.Repeat("\n", 998), line("a", "", 2))
	has(t, strings.Repeat("\n", 998)+"a:", line("a", "", 1000))
	wrong(t, "a:"+x[:999], 1000)
	wrong(t, "a:"+x[:998]+"\n", 1000)
	wrong(t, "a:"+x, 1000)
	wrong(t, "!"+x, 1000)
	wrong(t, ":"+x, 1000)
	wrong(t, "a:x\na:x\n"+x, 1000)
	wrong(t, "a:x\n#"+x, 1000)
	wrong(t, strings.Repeat("\n", 1001), 1000)
	wrong(t, strings.Repeat("a:x\n", 1<<20), 1000)
}

// P6.2: of each rule the name, the colon, the text, and a line feed.
func TestJoin(t *testing.T) {
	joins(t, "id:[a-z]+\n", line("id", "[a-z]+", 7))
	joins(t, "b:x\na:\nB:::\n", line("b", "x", 0), line("a", "", 0), line("B", "::", 0))
	joins(t, "a:#\r\x00\xff\n", line("a", "#\r\x00\xff", 0))
	for _, at := range []int{-1, 0, 2, 1000, 1 << 62, -1 << 63} {
		joins(t, "a:x\n", line("a", "x", at))
	}
}

// P6.2: 1 to 8 rules.
func TestNumberOfRules(t *testing.T) {
	refused(t)
	if s, e := rules.Join([]rules.Line{}); s != "" || e != api.ErrArg {
		t.Errorf("no rules: got %q, %d", s, e)
	}
	for n := 1; n <= 8; n++ {
		joins(t, written(many(n)), many(n)...)
	}
	for n := 9; n <= 20; n++ {
		refused(t, many(n)...)
	}
	refused(t, make([]rules.Line, 9)...)
}

// P6.2: names as they may be, each another one, texts without a line feed.
func TestWrongRules(t *testing.T) {
	a, b := line("a", "x", 0), line("b", "y", 0)
	for _, bad := range []rules.Line{
		line("", "x", 0), line("", "", 0), line("c:", "x", 0), line("#c", "x", 0), line("c ", "x", 0), line("c\n", "x", 0),
		line("a", "z", 0), line("b", "", 0), line("abcdefghijklm", "", 0),
		line("c", "\n", 0), line("c", "x\n", 0), line("c", "\nx", 0), line("c", "x\ny", 0), line("c", "x\nd:y", 0),
	} {
		refused(t, a, b, bad)
		refused(t, a, bad, b)
		refused(t, bad, a, b)
	}
	joins(t, "a:x\nb:x\n", a, line("b", "x", 0))
	joins(t, "a:x\nA:x\n", a, line("A", "x", 0))
}

// P6.2: no more than 1000 bytes in all.
func TestSizeOfAll(t *testing.T) {
	x := strings.Repeat("x", 2000)
	joins(t, "a:"+x[:997]+"\n", line("a", x[:997], 0))
	refused(t, line("a", x[:998], 0))
	refused(t, line("a", x, 0))
	joins(t, "abc:"+x[:995]+"\n", line("abc", x[:995], 0))
	refused(t, line("abc", x[:996], 0))
	joins(t, "a:"+x[:400]+"\nb:"+x[:594]+"\n", line("a", x[:400], 0), line("b", x[:594], 0))
	refused(t, line("a", x[:400], 0), line("b", x[:595], 0))
	eight := many(8)
	eight[3].Text = x[:1000-4*8+1]
	joins(t, written(eight), eight...)
	eight[7].Text += "x"
	refused(t, eight...)
	refused(t, line("a", strings.Repeat("x", 1<<23), 0), line("b", "", 0))
}

// P6.2: a text is no name, whatever it has.
func TestNameOfTexts(t *testing.T) {
	for _, s := range []string{"a", "Z", "_", "0", "____", "if", "x1", "1x", "A_b_9", "abcdefghijkl"} {
		if !rules.Name(s) {
			t.Errorf("%q is no name", s)
		}
	}
	for _, s := range []string{"", "abcdefghijklm", "a b", "a\n", "\na", "é", "a:", ":", "#a", "a-b", "a\x00", "@", "[", "`", "{", "/", strings.Repeat("a", 1<<20)} {
		if rules.Name(s) {
			t.Errorf("%q is a name", s)
		}
	}
}

// P6.3: Split of Join has the same names and texts.
func TestBackAgain(t *testing.T) {
	for _, list := range [][]rules.Line{
		{line("a", "x", 77)},
		{line("a", "", -1), line("b", "", 0)},
		{line("b", "#", 0), line("a", "b:c", 0), line("_", ":", 0)},
		{line("abcdefghijkl", strings.Repeat("y", 986), 0)},
		many(8),
	} {
		s, e := rules.Join(list)
		if e != api.OK {
			t.Fatalf("%+v: %d", list, e)
		}
		want, at := slices.Clone(list), 0
		for i := range want {
			want[i].At = at + len(want[i].Name) + 1
			at = want[i].At + len(want[i].Text) + 1
		}
		has(t, s, want...)
	}
}

func TestNothingIsShared(t *testing.T) {
	row := []rules.Line{line("a", "x", 9), line("b", "y", 9), line("c", "z", 9)}
	joins(t, "a:x\nb:y\n", row[:2]...)
	if !slices.Equal(row, []rules.Line{line("a", "x", 9), line("b", "y", 9), line("c", "z", 9)}) {
		t.Errorf("what was handed in is %+v", row)
	}
	first, _, _ := rules.Split("a:x\nb:y\nc:z")
	first[0] = line("q", "q", 0)
	_ = append(first, line("q", "q", 0))
	has(t, "a:x\nb:y\nc:z", line("a", "x", 2), line("b", "y", 6), line("c", "z", 10))
}
