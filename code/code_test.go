package code

import (
	"bytes"
	"fmt"
	"math"
	"math/rand/v2"
	"regexp"
	"slices"
	"strconv"
	"strings"
	"testing"

	"quiltmaker/api"
)

// words is a list of the words of s.
func words(s string) []string { return strings.Fields(s) }

// of is n times s; many is a list of n lines s.
func of(n int, s string) string { return strings.Repeat(s, n) }

func many(n int, s string) []string { return slices.Repeat([]string{s}, n) }

func hunkOf(at int, old, now string) api.Hunk {
	return api.Hunk{At: at, Old: words(old), New: words(now)}
}

// add, rm, move, patch and set are changes of each kind, as they may be.
func add(name string) api.Prim { return api.Prim{Kind: 0, Name: name} }

func rm(name string) api.Prim { return api.Prim{Kind: 1, Name: name} }

func move(name, to string) api.Prim { return api.Prim{Kind: 2, Name: name, To: to} }

func patch(name string, at int, old, now string) api.Prim {
	return api.Prim{Kind: 3, Name: name, H: hunkOf(at, old, now)}
}

func set(name, old, now string) api.Prim {
	return api.Prim{Kind: 4, Name: name, H: hunkOf(0, old, now)}
}

// to is p with another To, with is p with another H, at is p with another At.
func to(p api.Prim, name string) api.Prim {
	p.To = name
	return p
}

func with(p api.Prim, h api.Hunk) api.Prim {
	p.H = h
	return p
}

func at(p api.Prim, n int) api.Prim {
	p.H.At = n
	return p
}

// list is a list of changes.
func list(l ...api.Prim) []api.Prim { return l }

// equal and equalLists hold two against each other without a call of what is tested, or of what it stands on.
func equal(p, q api.Prim) bool {
	return p.Kind == q.Kind && p.Name == q.Name && p.To == q.To && p.H.At == q.H.At &&
		slices.Equal(p.H.Old, q.H.Old) && slices.Equal(p.H.New, q.H.New)
}

func equalLists(a, b []api.Prim) bool { return slices.EqualFunc(a, b, equal) }

// mayName, mayLines and may are what P1.1, P5.1 and P8.1 tell.
func mayName(s string) bool { return regexp.MustCompile(`\A[a-z0-9.]{1,16}\z`).MatchString(s) }

func mayLines(l []string) bool {
	return len(l) <= 200 && !slices.ContainsFunc(l, func(s string) bool { return len(s) > 80 || strings.Contains(s, "\n") })
}

func may(p api.Prim) bool {
	without := p.H.At == 0 && len(p.H.Old) == 0 && len(p.H.New) == 0
	lines := 0 <= p.H.At && p.H.At <= 1<<20 && mayLines(p.H.Old) && mayLines(p.H.New)
	switch p.Kind {
	case 0, 1:
		return mayName(p.Name) && p.To == "" && without
	case 2:
		return mayName(p.Name) && mayName(p.To) && p.To != p.Name && without
	case 3:
		return mayName(p.Name) && p.To == "" && lines
	case 4:
		return mayName(p.Name) && p.To == "" && lines && p.H.At == 0
	}
	return false
}

// toldOne is what P12.2 tells of one change that may be.
func toldOne(p api.Prim) string {
	if p.Kind < 2 {
		return fmt.Sprintf("%c %s\n", "+-"[p.Kind], p.Name)
	}
	if p.Kind == 2 {
		return fmt.Sprintf("> %s %s\n", p.Name, p.To)
	}
	s := fmt.Sprintf("%c %s %d %d %d\n", "@="[p.Kind-3], p.Name, p.H.At, len(p.H.Old), len(p.H.New))
	for _, line := range p.H.Old {
		s += "-" + line + "\n"
	}
	for _, line := range p.H.New {
		s += "+" + line + "\n"
	}
	return s
}

// toldBytes are those of changes that may be, however many they are.
func toldBytes(l []api.Prim) []byte {
	var s strings.Builder
	for _, p := range l {
		s.WriteString(toldOne(p))
	}
	return []byte(s.String())
}

// toldPut is what P12.2 tells.
func toldPut(l []api.Prim) ([]byte, api.Errno) {
	if len(l) > 200 {
		return nil, 8
	}
	for _, p := range l {
		if !may(p) {
			return nil, 1
		}
	}
	b := toldBytes(l)
	if len(b) > 200000 {
		return nil, 8
	}
	return b, 0
}

// The forms of a change's line, by what P12.2 tells of it.
var (
	oneName  = regexp.MustCompile(`\A([+-]) ([a-z0-9.]{1,16})\n`)
	twoNames = regexp.MustCompile(`\A> ([a-z0-9.]{1,16}) ([a-z0-9.]{1,16})\n`)
	numbers  = regexp.MustCompile(`\A([@=]) ([a-z0-9.]{1,16}) (0|[1-9][0-9]{0,6}) (0|[1-9][0-9]{0,2}) (0|[1-9][0-9]{0,2})\n`)
)

// cut takes the lines of a hunk away from the front of bytes, each behind a sign.
func cut(b []byte, sign byte, many []byte) (rest []byte, l []string, ok bool) {
	n, _ := strconv.Atoi(string(many))
	for range n {
		i := bytes.IndexByte(b, 10)
		if i < 1 || i > 81 || b[0] != sign {
			return nil, nil, false
		}
		l, b = append(l, string(b[1:i])), b[i+1:]
	}
	return b, l, n <= 200
}

// cutOne takes one change away from the front of bytes.
func cutOne(b []byte) (rest []byte, p api.Prim, ok bool) {
	if m := oneName.FindSubmatch(b); m != nil {
		return b[len(m[0]):], api.Prim{Kind: strings.Index("+-", string(m[1])), Name: string(m[2])}, true
	}
	if m := twoNames.FindSubmatch(b); m != nil {
		return b[len(m[0]):], move(string(m[1]), string(m[2])), !bytes.Equal(m[1], m[2])
	}
	m := numbers.FindSubmatch(b)
	if m == nil {
		return nil, p, false
	}
	p = api.Prim{Kind: 3 + strings.Index("@=", string(m[1])), Name: string(m[2])}
	p.H.At, _ = strconv.Atoi(string(m[3]))
	b, p.H.Old, ok = cut(b[len(m[0]):], '-', m[4])
	if !ok {
		return nil, p, false
	}
	b, p.H.New, ok = cut(b, '+', m[5])
	return b, p, ok && p.H.At <= 1<<20 && (p.Kind == 3 || p.H.At == 0)
}

// toldGet is the list whose bytes are b, if there is one: it is told by what bytes P12.2 can tell, and not by trying.
func toldGet(b []byte) ([]api.Prim, api.Errno) {
	if len(b) > 200000 {
		return nil, 2
	}
	var l []api.Prim
	for len(b) > 0 {
		rest, p, ok := cutOne(b)
		if !ok || len(l) == 200 {
			return nil, 2
		}
		l, b = append(l, p), rest
	}
	return l, 0
}

// short is of bytes, or of a list, what a message can hold.
func short(x any) string {
	s := fmt.Sprintf("%q", x)
	return s[:min(len(s), 300)]
}

// checkPut holds P12.2 and R4, and, of P12.4, that what is put is got.
func checkPut(t *testing.T, l []api.Prim) {
	t.Helper()
	b, e := Put(l)
	if want, we := toldPut(l); !bytes.Equal(b, want) || e != we {
		t.Errorf("%s: put %s, error %d, not %s, error %d", short(l), short(b), e, short(want), we)
	}
	if e != api.OK {
		return
	}
	if back, e := Get(b); !equalLists(back, l) || e != api.OK {
		t.Errorf("%s: put, and got %s, error %d", short(l), short(back), e)
	}
}

// checkGet holds P12.3 and R4, and, of P12.4, that what is got is put as the same bytes. It tells whether there is a list.
func checkGet(t *testing.T, b []byte) bool {
	t.Helper()
	l, e := Get(b)
	if want, we := toldGet(b); !equalLists(l, want) || e != we {
		t.Errorf("%s: got %s, error %d, not %s, error %d", short(b), short(l), e, short(want), we)
	}
	if e != api.OK {
		return false
	}
	if back, e := Put(l); !bytes.Equal(back, b) || e != api.OK {
		t.Errorf("%s: got, and put %s, error %d", short(b), short(back), e)
	}
	return true
}

// checkDigits holds P12.1 of Digits.
func checkDigits(t *testing.T, s string) {
	t.Helper()
	want, is := 0, false
	if regexp.MustCompile(`\A(0|[1-9][0-9]{0,6})\z`).MatchString(s) {
		want, _ = strconv.Atoi(s)
		is = want <= 1<<20
	}
	if !is {
		want = 0
	}
	if n, ok := Digits(s); n != want || ok != is {
		t.Errorf("%s: %d, %v, not %d, %v", short(s), n, ok, want, is)
	}
}

// P12.1: Number, at its edges, and all that have digits; and Digits of these.
func TestNumber(t *testing.T) {
	for n, want := range map[int]string{
		0: "0", 1: "1", 9: "9", 10: "10", 11: "11", 99: "99", 100: "100", 200: "200", 1000: "1000", 123456: "123456", 999999: "999999", 1000000: "1000000",
		1<<20 - 1: "1048575", 1 << 20: "1048576", 1<<20 + 1: "", 1048580: "", 1 << 21: "", 1 << 32: "", 1<<32 + 1: "", -1: "", -9: "", -1 << 20: "", -1<<20 - 1: "",
		math.MinInt: "", math.MinInt + 1: "", math.MaxInt: "", math.MaxInt - 1: "",
	} {
		if got := Number(n); got != want {
			t.Errorf("%d: %q", n, got)
		}
	}
	for n := range 1<<20 + 1 {
		s := Number(n)
		if s != fmt.Sprint(n) {
			t.Fatalf("%d: %q", n, s)
		}
		if got, is := Digits(s); got != n || !is {
			t.Fatalf("%q: %d, %v", s, got, is)
		}
	}
	for k := range 1000 {
		for _, n := range []int{-1 - k, 1<<20 + 1 + k, math.MinInt + k, math.MaxInt - k} {
			if got := Number(n); got != "" {
				t.Errorf("%d: %q", n, got)
			}
			checkDigits(t, fmt.Sprint(n))
		}
	}
}

// P12.1: Digits.
func TestDigits(t *testing.T) {
	for s, want := range map[string]int{"0": 0, "1": 1, "9": 9, "10": 10, "17": 17, "200": 200, "1000000": 1000000, "1048575": 1<<20 - 1, "1048576": 1 << 20} {
		if n, is := Digits(s); n != want || !is {
			t.Errorf("%q: %d, %v", s, n, is)
		}
		checkDigits(t, s)
	}
	for _, s := range []string{
		"", " ", "-", "+", ".", "\n", "\x00",
		"00", "01", "007", "0000000", "01048576", of(30, "0"), of(30, "0") + "1",
		"+0", "-0", "+1", "-1", "--1", "1-", "1+", "-1048576", "+1048576",
		" 1", "1 ", " 1 ", "1 2", "\t1", "1\n", "\n1", "1\r", "1\x00", "\x001",
		"a", "1a", "a1", "1e3", "0x1", "0X10", "0b1", "0o7", "1_000", "1,000", "1.0", "1.", ".1", "½", "٣", "１", "1\xff", "nil", "inf",
		"1048577", "1048580", "1050000", "1100000", "2000000", "9999999", "10000000", "10485760",
		"2147483647", "2147483648", "4294967295", "4294967296", "4294967297", "9223372036854775807", "9223372036854775808", "-9223372036854775808", "-9223372036854775809", "18446744073709551616", "18446744073709551617", of(100, "9"), "1" + of(100, "0"), of(1000000, "1"),
	} {
		if n, is := Digits(s); n != 0 || is {
			t.Errorf("%s: %d, %v", short(s), n, is)
		}
		checkDigits(t, s)
	}
}

// P12.1: Digits of all short texts of some bytes, and of each byte in each place.
func TestDigitsAllShort(t *testing.T) {
	level := []string{""}
	for range 5 {
		var next []string
		for _, s := range level {
			for _, c := range "01459+-_ \nx" {
				next = append(next, s+string(c))
			}
		}
		for _, s := range next[:min(len(next), 20000)] {
			checkDigits(t, s)
		}
		level = next[:min(len(next), 20000)]
	}
	for _, s := range []string{"", "0", "7", "10", "104857", "1048576"} {
		for k := range len(s) + 1 {
			for c := range 256 {
				one := string([]byte{byte(c)})
				checkDigits(t, s[:k]+one+s[k:])
				checkDigits(t, s[:k]+one+s[min(k+1, len(s)):])
			}
		}
	}
}

// fair are changes of each kind that may be, at the edges too; some lists of theirs are nil, some empty.
func fair() []api.Prim {
	return list(
		add("a"), add(of(16, "z")), add("."), add("0"), rm("a"), rm("b.9"), move("a", "b"), move("b", "a"), move(of(16, "a"), of(16, "b")),
		patch("a", 0, "", ""), patch("a", 0, "", "x"), patch("a", 0, "x", ""), patch("a", 17, "x y", "z"), patch("b", 1<<20, "x", "x y"),
		set("a", "", ""), set("a", "x", "y z"), set("b", "x y", ""),
		with(add("c"), api.Hunk{Old: []string{}, New: []string{}}), with(move("c", "d"), api.Hunk{Old: []string{}}), with(patch("c", 0, "", ""), api.Hunk{At: 3, Old: []string{}, New: nil}),
		with(patch("c", 0, "", ""), api.Hunk{At: 1, Old: []string{"", "-", "+"}, New: []string{"+", "", "-x"}}),
		with(patch("c", 0, "", ""), api.Hunk{Old: []string{" ", "+ a", "- a"}, New: []string{"@ a 0 0 0", "> a b", "= a 0 0 0", " x "}}),
		with(set("c", "", ""), api.Hunk{Old: []string{"\x00", "\r", "é", "\xff\xfe"}, New: []string{"\x7f", of(80, "-"), of(80, "+"), of(80, "\xff")}}),
	)
}

// wrong are changes that may not be: each for one thing alone, or for more.
func wrong() []api.Prim {
	return list(
		api.Prim{}, api.Prim{Kind: -1, Name: "a"}, api.Prim{Kind: 5, Name: "a"}, api.Prim{Kind: 5, Name: "a", To: "b", H: hunkOf(3, "x", "y")}, api.Prim{Kind: math.MinInt, Name: "a"}, api.Prim{Kind: math.MaxInt, Name: "a"}, api.Prim{Kind: 3 + 1<<32, Name: "a"},
		add("A"), add("a b"), add("a\n"), add(of(17, "a")), to(add("a"), "b"), with(add("a"), hunkOf(0, "", "x")), with(add("a"), hunkOf(0, "x", "")), at(add("a"), 1),
		rm(""), rm("a "), to(rm("a"), "b"), with(rm("a"), hunkOf(0, "", "x")), at(rm("a"), -1),
		move("a", ""), move("a", "a"), move("", "b"), move("a", "B"), move("a", "\n"), move("a", "b c"), with(move("a", "b"), hunkOf(0, "x", "y")), at(move("a", "b"), 1),
		patch("", 0, "", "x"), to(patch("a", 0, "", "x"), "b"), patch("a", -1, "", "x"), patch("a", 1<<20+1, "", "x"), patch("a", math.MinInt, "x", ""), patch("a", math.MaxInt, "x", "y z"),
		with(patch("a", 0, "", ""), api.Hunk{Old: []string{"\n"}}), with(patch("b", 0, "", ""), api.Hunk{New: []string{of(81, "x")}}), with(patch("b", 5, "", ""), api.Hunk{New: many(201, "x")}), with(patch("b", 5, "", ""), api.Hunk{Old: many(201, "")}),
		set("", "", "x"), to(set("a", "x", "y"), "b"), at(set("a", "x", "y"), 1), with(set("a", "", ""), api.Hunk{Old: many(201, "x")}), with(set("b", "", ""), api.Hunk{New: []string{"x\ny"}}),
	)
}

// kept are lists, and their bytes, the chapter's example first.
func kept() []struct {
	l []api.Prim
	b string
} {
	return []struct {
		l []api.Prim
		b string
	}{
		{list(add("a"), patch("a", 0, "", "x")), "+ a\n@ a 0 0 1\n+x\n"},
		{nil, ""},
		{list(), ""},
		{make([]api.Prim, 0, 3), ""},
		// One of each kind, alone and together.
		{list(add("a")), "+ a\n"},
		{list(rm("b.0")), "- b.0\n"},
		{list(move("a", "b")), "> a b\n"},
		{list(patch("a", 3, "x y", "z")), "@ a 3 2 1\n-x\n-y\n+z\n"},
		{list(set("a", "x", "y z")), "= a 0 1 2\n-x\n+y\n+z\n"},
		{list(add("a"), rm("b"), move("c", "d"), patch("e", 10, "x", "y"), set("f", "z", "")), "+ a\n- b\n> c d\n@ e 10 1 1\n-x\n+y\n= f 0 1 0\n-z\n"},
		{list(set("f", "", "z"), patch("e", 1, "x", ""), move("d", "c"), rm("b"), add("a")), "= f 0 0 1\n+z\n@ e 1 1 0\n-x\n> d c\n- b\n+ a\n"},
		{list(add("a"), add("a"), rm("a")), "+ a\n+ a\n- a\n"},
		// No lines, by lists that are nil and empty.
		{list(patch("a", 0, "", "")), "@ a 0 0 0\n"},
		{list(set("a", "", "")), "= a 0 0 0\n"},
		{list(with(patch("a", 0, "", ""), api.Hunk{At: 9})), "@ a 9 0 0\n"},
		{list(with(patch("a", 0, "", ""), api.Hunk{At: 10, Old: []string{}, New: []string{}})), "@ a 10 0 0\n"},
		{list(with(rm("a"), api.Hunk{Old: []string{}, New: []string{}})), "- a\n"},
		// Lines that are empty, or begin with a sign or a blank, or are as a change's line is.
		{list(with(patch("a", 0, "", ""), api.Hunk{Old: []string{""}, New: []string{"", ""}})), "@ a 0 1 2\n-\n+\n+\n"},
		{list(with(patch("a", 0, "", ""), api.Hunk{Old: []string{"-", "+", " "}, New: []string{"-x", "+x", " x"}})), "@ a 0 3 3\n--\n-+\n- \n+-x\n++x\n+ x\n"},
		{list(with(set("a", "", ""), api.Hunk{Old: []string{" a"}, New: []string{" a"}}), add("a")), "= a 0 1 1\n- a\n+ a\n+ a\n"},
		{list(with(set("a", "", ""), api.Hunk{New: []string{"@ a 0 0 1", "> a b", "= a 0 0 0"}})), "= a 0 0 3\n+@ a 0 0 1\n+> a b\n+= a 0 0 0\n"},
		{list(with(patch("a", 0, "", ""), api.Hunk{Old: []string{"x ", "\x00", "\r", "\xff", "é"}})), "@ a 0 5 0\n-x \n-\x00\n-\r\n-\xff\n-é\n"},
		// Names, places and lines at the limits.
		{list(move(of(16, "a"), of(16, "."))), "> aaaaaaaaaaaaaaaa ................\n"},
		{list(patch("a", 1<<20, "", ""), patch("a", 1<<20-1, "", ""), patch("0", 100, "", "")), "@ a 1048576 0 0\n@ a 1048575 0 0\n@ 0 100 0 0\n"},
		{list(with(set("a", "", ""), api.Hunk{Old: many(200, of(80, "x")), New: many(200, "")})), "= a 0 200 200\n" + of(200, "-"+of(80, "x")+"\n") + of(200, "+\n")},
		{slices.Repeat(list(add("a")), 200), of(200, "+ a\n")},
	}
}

// P12.2, P12.3: lists that may be, and their bytes.
func TestKept(t *testing.T) {
	for _, x := range kept() {
		if b, e := Put(x.l); string(b) != x.b || e != api.OK {
			t.Errorf("%s: put %s, error %d", short(x.l), short(b), e)
		}
		if l, e := Get([]byte(x.b)); !equalLists(l, x.l) || e != api.OK {
			t.Errorf("%s: got %s, error %d", short(x.b), short(l), e)
		}
		checkPut(t, x.l)
		checkGet(t, []byte(x.b))
	}
	if l, e := Get(nil); len(l) != 0 || e != api.OK {
		t.Errorf("nothing: got %v, error %d", l, e)
	}
}

// putError holds that a list is put with an error, and that nothing else is told.
func putError(t *testing.T, l []api.Prim, want api.Errno) {
	t.Helper()
	if b, e := Put(l); len(b) != 0 || e != want {
		t.Errorf("%s: put %s, error %d, not %d", short(l), short(b), e, want)
	}
	checkPut(t, l)
}

// P12.2: one that may not be, alone, at the beginning, in the middle, at the end, and in each place of a long list; R4.
func TestPutWhatMayNotBe(t *testing.T) {
	f := fair()
	checkPut(t, f)
	for _, p := range wrong() {
		putError(t, list(p), api.ErrArg)
		for k := range len(f) + 1 {
			putError(t, slices.Insert(slices.Clone(f), k, p), api.ErrArg)
		}
		for _, q := range wrong() {
			putError(t, list(add("a"), p, q), api.ErrArg)
		}
		l := slices.Repeat(list(add("a")), 199)
		for _, k := range []int{0, 1, 100, 198, 199} {
			putError(t, slices.Insert(slices.Clone(l), k, p), api.ErrArg)
		}
	}
}

// P12.2: more than 200 changes, whether all may be or not; R2.
func TestPutTooMany(t *testing.T) {
	for _, p := range fair()[:18] {
		checkPut(t, slices.Repeat(list(p), 199))
		checkPut(t, slices.Repeat(list(p), 200))
		putError(t, slices.Repeat(list(p), 201), api.ErrFull)
		putError(t, slices.Repeat(list(p), 1000), api.ErrFull)
	}
	l := slices.Repeat(list(add("a")), 200)
	for _, p := range wrong() {
		for _, k := range []int{0, 1, 100, 199, 200} {
			putError(t, slices.Insert(slices.Clone(l), k, p), api.ErrFull)
		}
		putError(t, slices.Repeat(list(p), 201), api.ErrFull)
		putError(t, slices.Repeat(list(p), 200), api.ErrArg)
	}
	putError(t, make([]api.Prim, 201), api.ErrFull)
	putError(t, make([]api.Prim, 200), api.ErrArg)
	putError(t, make([]api.Prim, 100000), api.ErrFull)
}

// full is a Patch of 16412 bytes, small is one of 831.
func full() api.Prim {
	return with(patch("a", 0, "", ""), api.Hunk{New: many(200, of(80, "x"))})
}

func small() api.Prim {
	return with(patch("a", 0, "", ""), api.Hunk{New: many(10, of(80, "x"))})
}

// filled is a list of at most 200 changes that come to n bytes, n being from 4 on.
func filled(n int) []api.Prim {
	var l []api.Prim
	for n >= 16412+4 {
		l, n = append(l, full()), n-16412
	}
	for n >= 831+4 {
		l, n = append(l, small()), n-831
	}
	for n > 0 {
		// What is left then is nothing, or enough for one more.
		k := min(19, n)
		if n-k > 0 && n-k < 4 {
			k -= 4
		}
		l, n = append(l, add(of(k-3, "a"))), n-k
	}
	return l
}

// P12.2, P12.3: what comes to 200000 bytes, and to some fewer and more.
func TestFull(t *testing.T) {
	for _, n := range []int{4, 5, 23, 100, 16411, 16412, 16413, 16416, 100000, 199996, 199998, 199999, 200000, 200001, 200002, 200010, 200100, 210000} {
		l := filled(n)
		b := toldBytes(l)
		if len(b) != n || len(l) > 200 {
			t.Fatalf("%d changes, of %d bytes, not %d", len(l), len(b), n)
		}
		wantPut, wantGet := api.OK, api.OK
		if n > 200000 {
			wantPut, wantGet = api.ErrFull, api.ErrForm
		}
		back := slices.Clone(l)
		slices.Reverse(back)
		for _, m := range [][]api.Prim{l, back} {
			if _, e := Put(m); e != wantPut {
				t.Errorf("%d bytes: put, error %d", n, e)
			}
			if got, e := Get(toldBytes(m)); e != wantGet || (e == api.OK) != (len(got) == len(m)) {
				t.Errorf("%d bytes: got %d, error %d", n, len(got), e)
			}
			checkPut(t, m)
			checkGet(t, toldBytes(m))
		}
		// One that may not be is told even if the bytes are too many, wherever it stands.
		for _, k := range []int{0, len(l) / 2, len(l)} {
			if len(l) < 200 {
				putError(t, slices.Insert(slices.Clone(l), k, add("A")), api.ErrArg)
			}
		}
	}
	putError(t, slices.Repeat(list(full()), 200), api.ErrFull)
	putError(t, slices.Repeat(list(full()), 201), api.ErrFull)
	putError(t, append(slices.Repeat(list(full()), 199), add("A")), api.ErrArg)
	// One change's bytes, or its last line's, are beyond.
	for n := 199990; n <= 200000; n++ {
		putError(t, append(filled(n), full()), api.ErrFull)
	}
	checkPut(t, append(filled(200000-16412), full()))
	putError(t, append(filled(200001-16412), full()), api.ErrFull)
	checkGet(t, toldBytes(append(filled(200000-16412), full())))
	checkGet(t, toldBytes(append(filled(200001-16412), full())))
}

// lists are all lists of at most n of some changes.
func lists(n int, some []api.Prim) [][]api.Prim {
	out := [][]api.Prim{nil}
	for k := 0; k < len(out) && len(out[k]) < n; k++ {
		for _, p := range some {
			out = append(out, append(slices.Clone(out[k]), p))
		}
	}
	return out
}

// P12.2 to P12.4: all lists of at most three changes; no two that may be, and differ, are put as the same bytes.
func TestAllSmall(t *testing.T) {
	were := map[string][]api.Prim{}
	for _, l := range lists(3, fair()) {
		checkPut(t, l)
		b, _ := Put(l)
		if was, is := were[string(b)]; is && !equalLists(was, l) {
			t.Errorf("%s and %s are both put as %q", short(was), short(l), b)
		}
		were[string(b)] = l
	}
	for _, l := range lists(2, append(fair(), wrong()...)) {
		checkPut(t, l)
	}
}

// getError holds that bytes are those of no list, and that a list without elements is told.
func getError(t *testing.T, s string) {
	t.Helper()
	if l, e := Get([]byte(s)); len(l) != 0 || e != api.ErrForm {
		t.Errorf("%s: got %s, error %d", short(s), short(l), e)
	}
	checkGet(t, []byte(s))
}

// others are bytes of no list, but by one thing like some that are.
func others() []string {
	return []string{
		// A 10 is missing, or is too many.
		"+ a", "+ a\n- b", "@ a 0 0 1\n+x", "@ a 0 1 0\n-", "@ a 0 0 0", "> a b",
		"\n", "\n\n", "+ a\n\n", "\n+ a\n", "+ a\n\n- a\n", "@ a 0 0 1\n+x\n\n", "@ a 0 0 1\n\n+x\n", "@ a 0 1 1\n-x\n\n+y\n", "@\na 0 0 0\n", "@ a 0\n0 0\n", "+ \na\n",
		// Bytes behind the last line.
		"+ a\nx", "+ a\n ", "+ a\n\x00", "@ a 0 0 1\n+x\nrest", "+ a\n+", "+ a\r\n", "+ a\n\r\n",
		// A sign that is none, or more than one, or missing.
		"* a\n", "a\n", " a\n", "a a\n", "+- a\n", "-> a b\n", ">@ a b\n", "@= a 0 0 0\n", "+->@= a\n", "++ a\n", "? a 0 0 0\n", "0 a\n", "\x00 a\n", "\xab a\n", "é a\n", " + a\n", "+a\n", "+\n", "-\n", ">\n", "@\n", "=\n", "+x\n", " \n", "  \n",
		// Two blanks, a blank at the end, other blanks.
		"+  a\n", "+ a \n", "+ a  \n", "+ \n", "+  \n", ">  a b\n", "> a  b\n", "> a b \n", "@  a 0 0 0\n", "@ a  0 0 0\n", "@ a 0  0 0\n", "@ a 0 0  0\n", "@ a 0 0 0 \n", "= a 0 0 0 \n", "+\ta\n", "> a\tb\n", "@ a\t0 0 0\n", "@ a 0\t0\t0\n", "+\u00a0a\n",
		// Too few words, and too many.
		"> a\n", "> a b c\n", "+ a b\n", "- a b\n", "+ a 0 0 0\n", "@ a\n", "@ a 0\n", "@ a 0 0\n", "@ a 0 0 0 0\n", "= a\n", "= a 0 0\n", "= a 0 0 0 0\n", "> a 0 0 0\n", "@ a b 0 0 0\n", "= a b\n", "@ 0 0 0\n",
		// Numbers of another form, or beyond what may be.
		"@ a 00 0 0\n", "@ a 01 0 0\n", "@ a 0 00 0\n", "@ a 0 0 00\n", "@ a 0 01 0\n-x\n", "@ a 0 0 01\n+x\n", "= a 00 0 0\n", "@ a +1 0 0\n", "@ a -1 0 0\n", "@ a -0 0 0\n", "@ a x 0 0\n", "@ a 0 x 0\n", "@ a 0 0 x\n", "@ a 1e3 0 0\n", "@ a 0x1 0 0\n", "@ a 1_0 0 0\n", "@ a 0 -1 0\n", "@ a 0 0 -1\n",
		"@ a 1048577 0 0\n", "@ a 0 1048577 0\n", "@ a 4294967296 0 0\n", "@ a 18446744073709551616 0 0\n", "@ a 0 18446744073709551616 0\n", "@ a " + of(100, "9") + " 0 0\n", "@ a 0 0 4294967296\n",
		// More lines are told than there are, or fewer.
		"@ a 0 1 0\n", "@ a 0 0 1\n", "@ a 0 1 0\n+x\n", "@ a 0 0 1\n-x\n", "@ a 0 2 0\n-x\n", "@ a 0 0 2\n+x\n", "@ a 0 1 1\n-x\n", "@ a 0 1 1\n+x\n", "@ a 0 0 0\n+x\n", "@ a 0 0 0\n-x\n", "@ a 0 1 0\n-x\n-y\n", "@ a 0 0 1\n+x\n+y\n", "@ a 0 1 1\n-x\n+y\n+z\n", "@ a 0 1048576 0\n-x\n", "@ a 0 0 1048576\n+x\n", "@ a 0 1048576 1048576\n", "= a 0 1 0\n", "= a 0 0 1\n", "= a 0 0 0\n+x\n", "@ a 0 1 0\n- a", "@ a 0 0 2\n+x\n- a\n",
		// Old and New mixed, or of another sign.
		"@ a 0 1 1\n+y\n-x\n", "@ a 0 2 1\n-x\n+y\n-z\n", "@ a 0 1 2\n+y\n-x\n+z\n", "@ a 0 1 2\n-x\n-y\n+z\n", "@ a 0 2 1\n-x\n+y\n+z\n", "@ a 0 1 0\nx\n", "@ a 0 0 1\n x\n", "@ a 0 1 0\n@x\n", "@ a 0 1 0\n=x\n", "@ a 0 1 0\n>x\n", "= a 0 1 1\n+x\n-y\n", "@ a 0 0 1\n\n", "@ a 0 1 0\n\n",
		// A change that may not be.
		"+ A\n", "- a-b\n", "+ " + of(17, "a") + "\n", "+ é\n", "+ a\x00\n", "- \xff\n", "> a a\n", "> a B\n", "> A b\n", ">  b\n", "> a \n", "> a " + of(17, "b") + "\n", "@ A 0 0 0\n", "@  0 0 0\n", "= a 1 0 0\n", "= a 1 1 0\n-x\n", "= a 1048576 0 0\n", "= A 0 0 0\n", "+ " + of(1000, "a") + "\n",
		"@ a 0 1 0\n-" + of(81, "x") + "\n", "@ a 0 0 1\n+" + of(81, "x") + "\n", "= a 0 1 0\n-" + of(1000, "x") + "\n", "@ a 0 201 0\n" + of(201, "-x\n"), "@ a 0 0 201\n" + of(201, "+\n"), "= a 0 0 201\n" + of(201, "+x\n"), "= a 0 201 201\n" + of(201, "-\n") + of(201, "+\n"),
		// Too many changes, or bytes.
		of(201, "+ a\n"), of(202, "@ a 0 0 0\n"), of(1000, "- a\n"), of(50001, "+ a\n"), of(200000, "\n"), of(200001, "\n"), of(200000, "x"), of(300000, "+"), of(200000, " "), of(199999, " ") + "\n", "+" + of(199998, " ") + "\n", of(200001, "\x00"),
		// What is no bytes of this kind at all.
		"x", " ", "\x00", "\xff", "\x00\n", "\xff\n", "\x7f\n", "bundle 0\n", "{}", "é\n",
	}
}

// P12.3: ErrForm, and nothing else, alone, behind a change and ahead of one; R4.
func TestGetOthers(t *testing.T) {
	for _, s := range others() {
		getError(t, s)
		if len(s) < 1000 {
			getError(t, "+ u\n"+s)
			getError(t, "@ u 1 1 1\n-x\n+y\n"+s)
			checkGet(t, []byte(s+"+ u\n"))
			checkGet(t, []byte(s+"\n"))
		}
	}
	// Bytes above 126 and noughts stand in lines, and nowhere else.
	for c := range 256 {
		one := string([]byte{byte(c)})
		for _, s := range []string{"+ a" + one + "\n", "+" + one + "a\n", one + " a\n", one, "+ a\n" + one, "@ a 0 0 1\n+" + one + "\n", "@ a 0 0 " + one + "\n", "@ a 0 1 0\n" + one + "\n", "> a" + one + "b\n", "@ a 0 1 1\n-x" + one + "+y\n"} {
			checkGet(t, []byte(s))
		}
		if want := []string{one + "x"}; c != 10 {
			l, e := Get([]byte("@ a 0 0 1\n+" + one + "x\n"))
			if e != api.OK || len(l) != 1 || !slices.Equal(l[0].H.New, want) {
				t.Errorf("byte %d: got %s, error %d", c, short(l), e)
			}
		}
	}
}

// some are bytes of lists, none long, in which all that P12.2 names stands.
func some() []string {
	var out []string
	for _, x := range kept() {
		if len(x.b) < 120 {
			out = append(out, x.b)
		}
	}
	return append(out, "+ a\n> a b\n@ b 10 1 2\n-o\n+ a\n+\n= b 0 2 1\n--q\n-+\n++ a\n- b\n", "@ a 12 0 11\n"+of(11, "+ a\n"), "@ a 0 1 1\n- a\n+ a\n- a\n+ a\n")
}

// P12.3: what is broken off at every byte, and from every byte on.
func TestBrokenOff(t *testing.T) {
	for _, s := range append(some(), string(toldBytes(fair()))) {
		b := []byte(s)
		for k := range len(b) + 1 {
			checkGet(t, b[:k])
			checkGet(t, b[k:])
			// Just where a change ends there is a list.
			if l, e := Get(b[:k]); e == api.OK && k > 0 && (b[k-1] != 10 || len(l) == 0) {
				t.Errorf("%s: got %s", short(b[:k]), short(l))
			}
		}
	}
}

// P12.3, P12.4: one byte changed, left out, or put in, anywhere, and two that stand side by side in the other order.
func TestOneByte(t *testing.T) {
	good := 0
	for _, s := range some() {
		b := []byte(s)
		for k := range len(b) + 1 {
			for c := range 256 {
				if checkGet(t, slices.Insert(slices.Clone(b), k, byte(c))) {
					good++
				}
				if k == len(b) {
					continue
				}
				other := slices.Clone(b)
				other[k] = byte(c)
				checkGet(t, other)
			}
			if k < len(b) {
				checkGet(t, slices.Delete(slices.Clone(b), k, k+1))
			}
			if k+1 < len(b) {
				other := slices.Clone(b)
				other[k], other[k+1] = b[k+1], b[k]
				checkGet(t, other)
			}
		}
	}
	if good < 1000 {
		t.Errorf("only %d are those of a list", good)
	}
}

// P12.3, P12.4: all bytes of at most so many pieces.
func checkPieces(t *testing.T, n int, pieces []string) int {
	t.Helper()
	good := 0
	var tell func(b []byte, left int)
	tell = func(b []byte, left int) {
		if checkGet(t, b) {
			good++
		}
		if left == 0 || t.Failed() {
			return
		}
		for _, s := range pieces {
			tell(append(b[:len(b):len(b)], s...), left-1)
		}
	}
	tell(nil, n)
	return good
}

func TestPieces(t *testing.T) {
	short := checkPieces(t, 6, []string{"+", "-", ">", " ", "a", "b", "\n"})
	lines := checkPieces(t, 5, []string{"+ a\n", "- b\n", "> a b\n", "@ a 0 1 0\n", "@ a 2 0 1\n", "= a 0 1 1\n", "-x\n", "+y\n", "+\n", "-\n", "\n"})
	numbers := checkPieces(t, 6, []string{"@", "=", " a", " 0", " 1", "\n", "\n-x", "\n+x"})
	if short < 10 || lines < 1000 || numbers < 10 {
		t.Errorf("only %d, %d and %d are those of a list", short, lines, numbers)
	}
}

// P12.3, P12.4: the numbers of a Patch and a Set, each of some, with some lines of each sign.
func TestNumbersOfLines(t *testing.T) {
	for _, head := range []string{"@ a 0", "@ a 7", "= a 0", "= a 7"} {
		for old := range 5 {
			for now := range 5 {
				for gone := range 5 {
					for put := range 5 {
						b := fmt.Sprintf("%s %d %d\n%s%s", head, old, now, of(gone, "-x\n"), of(put, "+y\n"))
						is := checkGet(t, []byte(b))
						if is != (old == gone && now == put && head != "= a 7") {
							t.Errorf("%q: a list: %v", b, is)
						}
					}
				}
			}
		}
	}
	for n := 190; n < 210; n++ {
		for _, head := range []string{"@ a 0", "= a 0"} {
			for _, b := range []string{
				fmt.Sprintf("%s %d 0\n%s", head, n, of(n, "-x\n")), fmt.Sprintf("%s 0 %d\n%s", head, n, of(n, "+x\n")), fmt.Sprintf("%s %d 200\n%s%s", head, n, of(n, "-\n"), of(200, "+\n")), of(n, head+" 0 0\n"),
			} {
				if is := checkGet(t, []byte(b)); is != (n <= 200) {
					t.Errorf("%s, %d: a list: %v", head, n, is)
				}
			}
		}
	}
	for n := 70; n < 90; n++ {
		for _, sign := range words("- +") {
			b := "@ a 0 1 0\n" + sign + of(n, "x") + "\n"
			if sign == "+" {
				b = "@ a 0 0 1\n" + sign + of(n, "x") + "\n"
			}
			if is := checkGet(t, []byte(b)); is != (n <= 80) {
				t.Errorf("a line of %d bytes: a list: %v", n, is)
			}
		}
	}
}

// change is one of any kind that may be, as next chooses it: a number from 0 on, below the one that it is given.
func change(next func(int) int) api.Prim {
	name := func() string {
		s := ""
		for range 1 + next(16) {
			s += string("abz019."[next(7)])
		}
		return s
	}
	lines := func() []string {
		var l []string
		for range next(6) * next(6) {
			line := ""
			for range next(5) * next(5) {
				line += string([]byte{"\x00\r -+@=>ax0\x7f\x80\xff"[next(14)]})
			}
			l = append(l, line)
		}
		return l
	}
	p := api.Prim{Kind: next(5), Name: name()}
	switch p.Kind {
	case 2:
		p.To = name()
		if p.To == p.Name {
			p.To += "b"
			p.To = p.To[max(0, len(p.To)-16):]
		}
	case 3:
		p.H.At = next(1<<20 + 1)
		fallthrough
	case 4:
		p.H.Old, p.H.New = lines(), lines()
	}
	return p
}

// P12.2 to P12.4: longer lists; their bytes with some changed; and any bytes.
func TestLonger(t *testing.T) {
	chance := rand.New(rand.NewPCG(12, 4))
	good := 0
	for range 3000 {
		var l []api.Prim
		for range chance.IntN(8) * chance.IntN(8) {
			l = append(l, change(chance.IntN))
		}
		checkPut(t, l)
		b, e := Put(l)
		if e != api.OK {
			continue
		}
		good++
		checkGet(t, b)
		for range 20 {
			for range 1 + chance.IntN(3) {
				if len(b) > 0 {
					b[chance.IntN(len(b))] = "\n +-@=>a01\x00\xff"[chance.IntN(12)]
				}
			}
			checkGet(t, b)
		}
		any := make([]byte, chance.IntN(40))
		for k := range any {
			any[k] = byte(chance.IntN(256))
		}
		checkGet(t, any)
		if t.Failed() {
			return
		}
	}
	if good < 2500 {
		t.Errorf("only %d are put", good)
	}
}

// marked is a list of changes with room behind it, and behind the lines of each, in which a write is seen.
func marked(l []api.Prim) []api.Prim {
	out := append(slices.Clone(l), add("mark"), add("mark"))[:len(l)]
	for k, p := range out {
		out[k].H.Old, out[k].H.New = markedLines(p.H.Old), markedLines(p.H.New)
	}
	return out
}

func markedLines(l []string) []string { return append(slices.Clone(l), "mark", "mark")[:len(l)] }

// unmarked tells whether a list is still as marked made it of was.
func unmarked(l, was []api.Prim) bool {
	room := l[len(l) : len(l)+2]
	return equalLists(l, was) && equal(room[0], add("mark")) && equal(room[1], add("mark")) &&
		!slices.ContainsFunc(l, func(p api.Prim) bool { return !stillMarked(p.H.Old) || !stillMarked(p.H.New) })
}

func stillMarked(l []string) bool { return slices.Equal(l[len(l):len(l)+2], words("mark mark")) }

// spoil writes over a list, and over the room behind it, and over the lines of all that stands in either.
func spoil(l []api.Prim) {
	l = l[:cap(l)]
	for k := range l {
		spoilLines(l[k].H.Old)
		spoilLines(l[k].H.New)
		l[k] = api.Prim{Kind: 9, Name: "spoilt"}
	}
}

func spoilLines(l []string) {
	l = l[:cap(l)]
	for k := range l {
		l[k] = "spoilt"
	}
}

func spoilBytes(b []byte) {
	b = b[:cap(b)]
	for k := range b {
		b[k] = '!'
	}
}

// checkApart holds, of changes that are answered, that none of their lines share memory.
func checkApart(t *testing.T, l []api.Prim) {
	t.Helper()
	var lines, was [][]string
	for _, p := range l {
		lines = append(lines, p.H.Old, p.H.New)
		was = append(was, slices.Clone(p.H.Old), slices.Clone(p.H.New))
	}
	for k, some := range lines {
		spoilLines(some)
		for n := k + 1; n < len(lines); n++ {
			if !slices.Equal(lines[n], was[n]) {
				t.Errorf("lists of lines %d and %d of what is answered, %s, are shared", k, n, short(l))
			}
		}
	}
}

// R3: what Put is given stays, its room too, and its bytes are the caller's own.
func TestPutSharesNothing(t *testing.T) {
	inputs := append(lists(2, fair()), fair(), wrong(), append(fair(), wrong()...), filled(200000), filled(200001), slices.Repeat(list(patch("a", 0, "x", "y")), 201))
	for _, l := range inputs {
		in := marked(l)
		one, _ := Put(in)
		want := slices.Clone(one)
		if !unmarked(in, l) {
			t.Fatalf("%s: what was handed in is now %s", short(l), short(in))
		}
		two, _ := Put(in)
		spoilBytes(two)
		if !bytes.Equal(one, want) || !unmarked(in, l) {
			t.Errorf("%s: two answers are shared, or one with what was handed in", short(l))
		}
		spoil(in)
		if !bytes.Equal(one, want) {
			t.Errorf("%s: what was answered is then %s", short(l), short(one))
		}
	}
}

// R3: what Get is given stays, its room too, and what it tells is the caller's own, its lines too.
func TestGetSharesNothing(t *testing.T) {
	for _, s := range append(append(some(), others()...), string(toldBytes(fair())), string(toldBytes(filled(200000)))) {
		in := append([]byte(s), "mark"...)[:len(s)]
		stays := func(what string) {
			t.Helper()
			if string(in[:len(s)+4]) != s+"mark" {
				t.Fatalf("%s: %s, the bytes are now %s", short(s), what, short(in))
			}
		}
		one, e := Get(in)
		stays("got")
		two, _ := Get(in)
		want, _ := toldGet([]byte(s))
		spoil(two)
		stays("the answer spoilt")
		if !equalLists(one, want) {
			t.Errorf("%s: two answers are shared: the first one is then %s, error %d", short(s), short(one), e)
		}
		spoilBytes(in)
		if !equalLists(one, want) {
			t.Errorf("%s: what was answered is then %s", short(s), short(one))
		}
		checkApart(t, one)
	}
}

// R3: one list of lines that all have, and pieces of it.
func TestOneListManyTimes(t *testing.T) {
	lines := markedLines(words("x y x y"))
	hunks := []api.Hunk{{Old: lines, New: lines[:1]}, {Old: lines[:2], New: lines[2:]}, {Old: lines[:0], New: lines}, {Old: lines[1:3], New: lines[1:2]}, {Old: lines[:0], New: lines[:0]}}
	for _, g := range hunks {
		for _, h := range hunks {
			l := list(with(patch("a", 0, "", ""), g), with(set("a", "", ""), h), with(patch("b", 0, "", ""), g))
			checkPut(t, l)
			b, _ := Put(l)
			got, _ := Get(b)
			checkApart(t, got)
			if !slices.Equal(lines[:6], words("x y x y mark mark")) {
				t.Fatalf("%v: %q", l, lines[:6])
			}
		}
	}
}

// R5: what is asked does not hang on what was asked ahead of it, nor on what went wrong there.
func TestAskedOnceMore(t *testing.T) {
	l := list(add("a"), patch("a", 0, "", "x"), set("a", "x", ""))
	ask := func() string {
		b, e := Put(l)
		m, f := Get(b)
		_, g := Get(b[:5])
		n, is := Digits("17")
		return fmt.Sprintf("%q %d %v %d %d %d %v %s", b, e, m, f, g, n, is, Number(9))
	}
	first := ask()
	if want := `"+ a\n@ a 0 0 1\n+x\n= a 0 1 0\n-x\n" 0 [{0 a  {0 [] []}} {3 a  {0 [] [x]}} {4 a  {0 [x] []}}] 0 2 17 true 9`; first != want {
		t.Errorf("%s, not %s", first, want)
	}
	for _, s := range others() {
		Get([]byte(s))
	}
	Put(wrong())
	Put(filled(200001))
	Digits("x")
	if again := ask(); again != first {
		t.Errorf("%s, and then %s", first, again)
	}
}

// Lines are taken one by one, by each taker for itself.
func TestLinesAreTaken(t *testing.T) {
	b := []byte("a\n\nb\n")
	one, two := lines(b), lines(b)
	for _, want := range []string{"a", "", "b"} {
		for _, next := range []func() (string, bool){one, two} {
			if line, is := next(); line != want || !is {
				t.Errorf("%q, %v, not %q", line, is, want)
			}
		}
	}
	for range 3 {
		if line, is := one(); line != "" || is {
			t.Errorf("behind all: %q, %v", line, is)
		}
	}
}

func FuzzGet(f *testing.F) {
	for _, s := range append(some(), others()...) {
		if len(s) < 1000 {
			f.Add([]byte(s))
		}
	}
	f.Fuzz(func(t *testing.T, b []byte) { checkGet(t, b) })
}

func FuzzPut(f *testing.F) {
	f.Add([]byte{}, 0, "", "", 0, "", "")
	f.Add([]byte{1, 2, 3}, 3, "a", "", 5, "x\ny", "z")
	f.Add([]byte{0, 22, 60, 8}, 4, "b", "", 0, "", "\n\n")
	f.Add([]byte{30}, 2, "a", "b", 0, "", "")
	f.Fuzz(func(t *testing.T, some []byte, kind int, name, to string, at int, old, now string) {
		p := api.Prim{Kind: kind, Name: name, To: to, H: api.Hunk{At: at}}
		if old != "" {
			p.H.Old = strings.Split(old, "\n")
		}
		if now != "" {
			p.H.New = strings.Split(now, "\r")
		}
		checkPut(t, list(p))
		all := append(fair(), wrong()...)
		var l []api.Prim
		for _, b := range some {
			l = append(l, all[int(b)%len(all)])
		}
		checkPut(t, l)
		checkPut(t, append(l, p))
		checkDigits(t, name)
		checkDigits(t, fmt.Sprint(at))
	})
}
