package text

import (
	"bytes"
	"slices"
	"strings"
	"testing"

	"quiltmaker/api"
)

// of is n bytes of s, one behind the other.
func of(n int, s string) string { return strings.Repeat(s, n) }

// many is a list of n lines s.
func many(n int, s string) []string {
	return slices.Repeat([]string{s}, n)
}

// P1.1: May.
func TestMayByLength(t *testing.T) {
	for n := range 200 {
		if got, want := May(of(n, "x")), n <= 80; got != want {
			t.Errorf("a line of %d bytes: %v", n, got)
		}
	}
	// Bytes are counted, not runes.
	if !May(of(40, "é")) || May(of(41, "é")) || May(of(40, "é")+"x") {
		t.Error("a line of two-byte runes")
	}
	if May(of(api.MaxBytes+1, "x")) {
		t.Error("a very long line")
	}
}

func TestMayByBytes(t *testing.T) {
	for c := range 256 {
		one := string([]byte{byte(c)})
		for _, s := range []string{one, "ab" + one, one + "ab", "a" + one + "b", of(79, "x") + one} {
			if got, want := May(s), c != 10; got != want {
				t.Errorf("%q: %v", s, got)
			}
		}
	}
}

// P1.1: All.
func TestAll(t *testing.T) {
	for i, x := range []struct {
		l    []string
		want bool
	}{
		{nil, true},
		{[]string{}, true},
		{[]string{""}, true},
		{[]string{"a", "", "b"}, true},
		{[]string{"a", "\n", "b"}, false},
		{[]string{of(80, "x"), of(80, "y")}, true},
		{[]string{of(81, "x"), "a"}, false},
		{[]string{"a", of(81, "x")}, false},
		{[]string{"a\nb"}, false},
		{many(199, "a"), true},
		{many(200, ""), true},
		{many(200, of(80, "x")), true},
		{many(201, ""), false},
		{many(1000, "a"), false},
		{append(many(199, "a"), "\n"), false},
		{append(many(199, "a"), of(81, "x")), false},
	} {
		if got := All(x.l); got != x.want {
			t.Errorf("%d: %v", i, got)
		}
	}
}

// P1.1: Name.
func TestNameByLength(t *testing.T) {
	for n := range 40 {
		if got, want := Name(of(n, "a")), n >= 1 && n <= 16; got != want {
			t.Errorf("a name of %d bytes: %v", n, got)
		}
	}
}

func TestNameByBytes(t *testing.T) {
	const may = "abcdefghijklmnopqrstuvwxyz0123456789."
	for c := range 256 {
		one := string([]byte{byte(c)})
		want := strings.Contains(may, one)
		for _, s := range []string{one, "a" + one, one + "a", "a" + one + "a", of(15, "z") + one} {
			if got := Name(s); got != want {
				t.Errorf("%q: %v", s, got)
			}
		}
	}
	for _, s := range []string{"é", "٣", "a/b", "a b", "a-b", "A", "a\n", "\x00"} {
		if Name(s) {
			t.Errorf("%q may be a name", s)
		}
	}
	for _, s := range []string{".", "..", "0", "a.go", "9z.0", "abcdefghijklmnop"} {
		if !Name(s) {
			t.Errorf("%q may not be a name", s)
		}
	}
}

// P1.2: Split, what it tells, and which error comes first.
func TestSplit(t *testing.T) {
	for i, x := range []struct {
		b    string
		want []string
		e    api.Errno
	}{
		{"", nil, api.OK},
		{"\n", []string{""}, api.OK},
		{"a\n", []string{"a"}, api.OK},
		{"a\n\n", []string{"a", ""}, api.OK},
		{"\na\n", []string{"", "a"}, api.OK},
		{"a\nb c\nd\n", []string{"a", "b c", "d"}, api.OK},
		{"\r\n\x00\xff\n", []string{"\r", "\x00\xff"}, api.OK},
		{"a", nil, api.ErrForm},
		{"a\nb", nil, api.ErrForm},
		{"\n\r", nil, api.ErrForm},
		{of(80, "x") + "\n", []string{of(80, "x")}, api.OK},
		{of(81, "x") + "\n", nil, api.ErrForm},
		{"a\n" + of(81, "x") + "\nb\n", nil, api.ErrForm},
		{of(81, "x"), nil, api.ErrForm},
		{of(200, "\n"), many(200, ""), api.OK},
		{of(200, of(80, "x")+"\n"), many(200, of(80, "x")), api.OK},
		{of(200, "\n") + "a", nil, api.ErrForm},
		{of(201, "\n"), nil, api.ErrFull},
		{of(201, "\n") + "a", nil, api.ErrFull},
		{of(81, "x") + of(201, "\n"), nil, api.ErrFull},
		{of(199999, "x") + "\n", nil, api.ErrForm},
		{of(200000, "x"), nil, api.ErrForm},
		{of(200000, "x") + "\n", nil, api.ErrFull},
		{of(200001, "x"), nil, api.ErrFull},
		{of(200001, "\n"), nil, api.ErrFull},
	} {
		l, e := Split([]byte(x.b))
		if !slices.Equal(l, x.want) || e != x.e {
			t.Errorf("%d: %d lines, error %d", i, len(l), e)
		}
	}
	if l, e := Split(nil); len(l) != 0 || e != api.OK {
		t.Error("nothing", l, e)
	}
}

// P1.2: Join.
func TestJoin(t *testing.T) {
	for i, x := range []struct {
		l    []string
		want string
		e    api.Errno
	}{
		{nil, "", api.OK},
		{[]string{}, "", api.OK},
		{[]string{""}, "\n", api.OK},
		{[]string{"a", ""}, "a\n\n", api.OK},
		{[]string{"", "a"}, "\na\n", api.OK},
		{[]string{"\xff\x00\r"}, "\xff\x00\r\n", api.OK},
		{[]string{of(80, "x")}, of(80, "x") + "\n", api.OK},
		{[]string{of(81, "x")}, "", api.ErrArg},
		{[]string{"a\nb"}, "", api.ErrArg},
		{[]string{"a", "\n"}, "", api.ErrArg},
		{many(200, of(80, "x")), of(200, of(80, "x")+"\n"), api.OK},
		{many(201, ""), "", api.ErrArg},
		{append(many(199, "a"), "\n"), "", api.ErrArg},
	} {
		b, e := Join(x.l)
		if string(b) != x.want || e != x.e {
			t.Errorf("%d: %d bytes, error %d", i, len(b), e)
		}
	}
}

// wanted is what Split is to tell, byte by byte.
func wanted(b []byte) ([]string, api.Errno) {
	ends := 0
	for _, c := range b {
		if c == 10 {
			ends++
		}
	}
	if len(b) > 200000 || ends > 200 {
		return nil, api.ErrFull
	}
	var l []string
	var line []byte
	for _, c := range b {
		if c != 10 {
			line = append(line, c)
			continue
		}
		if len(line) > 80 {
			return nil, api.ErrForm
		}
		l = append(l, string(line))
		line = nil
	}
	if len(line) > 0 {
		return nil, api.ErrForm
	}
	return l, api.OK
}

// check holds P1.2 and P1.3 for bytes.
func check(t *testing.T, b []byte) {
	t.Helper()
	l, e := Split(b)
	want, we := wanted(b)
	if !slices.Equal(l, want) || e != we {
		t.Errorf("%q: %q, error %d", b, l, e)
	}
	if e != api.OK {
		return
	}
	if back, e := Join(l); !bytes.Equal(back, b) || e != api.OK {
		t.Errorf("%q: joined again %q, error %d", b, back, e)
	}
}

// P1.3: what is split is joined.
func TestSplitThenJoin(t *testing.T) {
	const letters = "\na\xff"
	level := [][]byte{nil}
	for range 8 {
		var next [][]byte
		for _, b := range level {
			check(t, b)
			for i := range len(letters) {
				next = append(next, append(slices.Clone(b), letters[i]))
			}
		}
		level = next
	}
	for n := 70; n < 90; n++ {
		check(t, []byte(of(n, "x")+"\n"+of(n, "y")+"\n"))
	}
	for n := 190; n < 210; n++ {
		check(t, []byte(of(n, of(80, "x")+"\n")))
	}
}

// P1.3: what is joined is split.
func TestJoinThenSplit(t *testing.T) {
	lists := [][]string{nil, many(200, ""), many(200, of(80, "x")), {of(80, "\r")}}
	level := [][]string{nil}
	for range 5 {
		var next [][]string
		for _, l := range level {
			lists = append(lists, l)
			for _, line := range []string{"", "a", "a b", "\x00\xff"} {
				next = append(next, append(slices.Clone(l), line))
			}
		}
		level = next
	}
	for _, l := range lists {
		b, e := Join(l)
		if e != api.OK {
			t.Fatalf("%q: error %d", l, e)
		}
		if back, e := Split(b); !slices.Equal(back, l) || e != api.OK {
			t.Errorf("%q: split again %q, error %d", l, back, e)
		}
	}
}

func FuzzSplit(f *testing.F) {
	for _, s := range []string{"", "\n", "a\n\n", "a", of(80, "x") + "\n", of(81, "x") + "\n", of(200, "\n"), of(201, "\n")} {
		f.Add([]byte(s))
	}
	f.Fuzz(check)
}

// R3: what is handed in stays, and what is answered is the caller's own.
func TestNothingIsShared(t *testing.T) {
	b := []byte("ab\ncd\n")
	l, _ := Split(b)
	if string(b) != "ab\ncd\n" {
		t.Errorf("Split changed its bytes: %q", b)
	}
	b[0], b[3] = 'x', 10
	if !slices.Equal(l, []string{"ab", "cd"}) {
		t.Errorf("lines changed with the bytes: %q", l)
	}
	in := []string{"ab", "cd"}
	one, _ := Join(in)
	two, _ := Join(in)
	one[0] = 'x'
	if !slices.Equal(in, []string{"ab", "cd"}) || string(two) != "ab\ncd\n" {
		t.Errorf("bytes shared: %q, %q", in, two)
	}
	again, _ := Split(two)
	again[0] = "x"
	if string(two) != "ab\ncd\n" {
		t.Errorf("bytes changed with the lines: %q", two)
	}
}

// R4: with an error nothing else is told, whatever stood ahead of the fault.
func TestNothingBesideAnError(t *testing.T) {
	for _, s := range []string{"a\nb", "a\n" + of(81, "x") + "\n", of(201, "a\n"), "a\n" + of(200000, "x")} {
		if l, e := Split([]byte(s)); len(l) != 0 || e == api.OK {
			t.Errorf("Split: %d lines, error %d", len(l), e)
		}
	}
	for _, l := range [][]string{{"a", "\n"}, many(201, "a")} {
		if b, e := Join(l); len(b) != 0 || e != api.ErrArg {
			t.Errorf("Join: %d bytes, error %d", len(b), e)
		}
	}
}

// Lines to range over: a range may be broken off, and gone through once more.
func TestLinesAreRangedOver(t *testing.T) {
	all := lines([]byte("a\n\nb\nrest"))
	for range all {
		break
	}
	for range 2 {
		if got := slices.Collect(all); !slices.Equal(got, []string{"a", "", "b"}) {
			t.Errorf("%q", got)
		}
	}
}
