package tree

import (
	"fmt"
	"slices"
	"strings"
	"testing"

	"quiltmaker/api"
)

// words is a list of the words of s.
func words(s string) []string { return strings.Fields(s) }

// put is a file with lines, of a tree of files without any.
func put(name, lines string) api.File { return api.File{Name: name, Lines: words(lines)} }

func of(names ...string) api.Tree {
	var t api.Tree
	for _, name := range names {
		t = append(t, api.File{Name: name})
	}
	return t
}

// many is a tree of n files, by rising names.
func many(n int) api.Tree {
	var t api.Tree
	for k := range n {
		t = append(t, put(fmt.Sprintf("f%03d", k), "x"))
	}
	return t
}

// alone is a tree of one file, a, of those lines.
func alone(lines ...string) api.Tree { return api.Tree{{Name: "a", Lines: lines}} }

// times is a list of n lines s.
func times(n int, s string) []string { return slices.Repeat([]string{s}, n) }

// less is whether a name is ahead of another one, byte by byte.
func less(a, b string) bool {
	for k := range min(len(a), len(b)) {
		if a[k] != b[k] {
			return a[k] < b[k]
		}
	}
	return len(a) < len(b)
}

// lines are those of a file, ends and all, so that two files without any are the same.
func lines(l []string) string {
	s := ""
	for _, line := range l {
		s += fmt.Sprint(len(line)) + ":" + line
	}
	return s
}

// show is all of a tree, told without a call of what is tested.
func show(t api.Tree) string {
	s := ""
	for _, f := range t {
		s += fmt.Sprintf("%q %d %q\n", f.Name, len(f.Lines), lines(f.Lines))
	}
	return s
}

// copied is a tree once more.
func copied(t api.Tree) api.Tree {
	t = slices.Clone(t)
	for k := range t {
		t[k].Lines = slices.Clone(t[k].Lines)
	}
	return t
}

// mayName is whether a file may be named so, told by the letters.
func mayName(s string) bool {
	return 1 <= len(s) && len(s) <= 16 && strings.Trim(s, "abcdefghijklmnopqrstuvwxyz0123456789.") == "" &&
		!strings.ContainsFunc(s, func(r rune) bool { return !strings.ContainsRune("abcdefghijklmnopqrstuvwxyz0123456789.", r) })
}

func mayLines(l []string) bool {
	return len(l) <= 200 && !slices.ContainsFunc(l, func(s string) bool { return len(s) > 80 || strings.Contains(s, "\n") })
}

// toldMay is what P7.1 tells of one tree, held of all pairs of files.
func toldMay(t api.Tree) bool {
	for k, f := range t {
		if !mayName(f.Name) || !mayLines(f.Lines) {
			return false
		}
		for _, ahead := range t[:k] {
			if !less(ahead.Name, f.Name) {
				return false
			}
		}
	}
	return len(t) <= 30
}

// toldGet, toldPut, toldDel and toldNames are what P7.2 and P7.3 tell, gone through file by file.
func toldGet(t api.Tree, name string) ([]string, bool) {
	for _, f := range t {
		if f.Name == name {
			return f.Lines, true
		}
	}
	return nil, false
}

func toldPut(t api.Tree, name string, l []string) api.Tree {
	_, there := toldGet(t, name)
	var out api.Tree
	done := false
	for _, f := range t {
		switch {
		case done:
		case there && f.Name == name:
			f.Lines, done = l, true
		case !there && less(name, f.Name):
			out, done = append(out, api.File{Name: name, Lines: l}), true
		}
		out = append(out, f)
	}
	if !done {
		out = append(out, api.File{Name: name, Lines: l})
	}
	return out
}

func toldDel(t api.Tree, name string) api.Tree {
	var out api.Tree
	done := false
	for _, f := range t {
		if f.Name == name && !done {
			done = true
			continue
		}
		out = append(out, f)
	}
	return out
}

func toldNames(a, b api.Tree) []string {
	var l []string
	for _, f := range slices.Concat(a, b) {
		k := 0
		for k < len(l) && less(l[k], f.Name) {
			k++
		}
		if k == len(l) || l[k] != f.Name {
			l = slices.Insert(l, k, f.Name)
		}
	}
	return l
}

func checkMay(t *testing.T, x api.Tree) {
	t.Helper()
	if got, want := May(x), toldMay(x); got != want {
		t.Errorf("%v: %v", x, got)
	}
}

func checkSame(t *testing.T, a, b api.Tree, want bool) {
	t.Helper()
	if Same(a, b) != want || Same(b, a) != want {
		t.Errorf("%v, %v: %v, and turned round %v", a, b, Same(a, b), Same(b, a))
	}
}

func checkGet(t *testing.T, x api.Tree, name string) {
	t.Helper()
	l, is := Get(x, name)
	if want, there := toldGet(x, name); is != there || !slices.Equal(l, want) {
		t.Errorf("%v, %q: %q, %v", x, name, l, is)
	}
}

// checkPut holds P7.2 and P7.4: what is put is got, and no other file is another one.
func checkPut(t *testing.T, x api.Tree, name string, l []string) {
	t.Helper()
	got := Put(x, name, l)
	if want := toldPut(x, name, l); show(got) != show(want) {
		t.Errorf("%v, %q, %q: %v, not %v", x, name, l, got, want)
	}
	if back, is := Get(got, name); !is || !slices.Equal(back, l) {
		t.Errorf("%v, %q, %q: got %q, %v", x, name, l, back, is)
	}
	if toldMay(x) && mayName(name) && mayLines(l) && len(got) <= 30 && !May(got) {
		t.Errorf("%v, %q, %q: %v may not be", x, name, l, got)
	}
	for _, f := range x {
		if f.Name == name {
			continue
		}
		was, _ := toldGet(x, f.Name)
		if now, is := Get(got, f.Name); !is || !slices.Equal(now, was) {
			t.Errorf("%v, %q, %q: %q is now %q, %v", x, name, l, f.Name, now, is)
		}
	}
	if _, there := toldGet(x, name); !there {
		if back := Del(got, name); show(back) != show(x) || !Same(back, x) {
			t.Errorf("%v, %q, %q: taken away again: %v", x, name, l, back)
		}
	} else if len(got) != len(x) {
		t.Errorf("%v, %q, %q: %d files", x, name, l, len(got))
	}
}

func checkDel(t *testing.T, x api.Tree, name string) {
	t.Helper()
	got := Del(x, name)
	if want := toldDel(x, name); show(got) != show(want) {
		t.Errorf("%v, %q: %v, not %v", x, name, got, want)
	}
	if _, is := toldGet(got, name); is && toldMay(x) {
		t.Errorf("%v, %q: is there still", x, name)
	}
}

func checkNames(t *testing.T, a, b api.Tree) {
	t.Helper()
	want := toldNames(a, b)
	if got := Names(a, b); !slices.Equal(got, want) {
		t.Errorf("%v, %v: %q, not %q", a, b, got, want)
	}
	if got := Names(b, a); !slices.Equal(got, want) {
		t.Errorf("%v, %v: %q, not %q", b, a, got, want)
	}
}

// P7.1: names.
func TestMayNames(t *testing.T) {
	for _, x := range []struct {
		t    api.Tree
		want bool
	}{
		{nil, true},
		{api.Tree{}, true},
		{of("a"), true},
		{of("a", "b", "c"), true},
		// Names that are the same, side by side and not.
		{of("a", "a"), false},
		{of("a", "b", "b"), false},
		{of("a", "b", "a"), false},
		{of("a", "a", "b"), false},
		// Names that fall, ahead, in the midst and behind.
		{of("b", "a"), false},
		{of("b", "a", "c"), false},
		{of("a", "c", "b"), false},
		{of("a", "d", "b", "c"), false},
		{of("b", "c", "a"), false},
		// A beginning of another one is less.
		{of("a", "ab"), true},
		{of("ab", "a"), false},
		{of("a", "ab", "abc", "b"), true},
		{of("ab", "abc", "ac"), true},
		{of("abc", "abb"), false},
		{of("aaaaaaaaaaaaaaa", "aaaaaaaaaaaaaaaa"), true},
		{of("aaaaaaaaaaaaaaaa", "aaaaaaaaaaaaaaa"), false},
		// Byte by byte, not by numbers or by length.
		{of(".", "0", "9", "a", "z"), true},
		{of("0", "."), false},
		{of("a", "9"), false},
		{of("10", "9"), true},
		{of("9", "10"), false},
		{of("b", "aa"), false},
		{of("aa", "b"), true},
		{of("a.b", "a0b", "aab"), true},
		// Names that may not be: the first one, the last one, one in the midst.
		{of(""), false},
		{of("", "a"), false},
		{of("A"), false},
		{of("A", "a"), false},
		{of("a", "a b"), false},
		{of("a", "a-b", "b"), false},
		{of("a", "b", "c\n"), false},
		{of("a", "b", "\xff"), false},
		{of("a/b"), false},
		{of("é"), false},
		{of("aaaaaaaaaaaaaaaa"), true},
		{of("aaaaaaaaaaaaaaaaa"), false},
		{of("a", "bbbbbbbbbbbbbbbbb"), false},
	} {
		if got := May(x.t); got != x.want {
			t.Errorf("%v: %v", x.t, got)
		}
		checkMay(t, x.t)
	}
}

// P7.1: how many files, and MaxFiles.
func TestMayHowMany(t *testing.T) {
	for n := range 70 {
		if got := May(many(n)); got != (n <= 30) {
			t.Errorf("%d files: %v", n, got)
		}
	}
	if May(many(1 << 16)) {
		t.Error("many files")
	}
	for k := range 30 {
		full := many(30)
		full[k].Name = "A"
		if May(full) {
			t.Errorf("30 files, of which number %d is named A", k)
		}
		full = many(30)
		full[k].Lines = words("a b c")
		full[k].Lines[2] = "\n"
		if May(full) {
			t.Errorf("30 files, of which number %d has a line that may not be", k)
		}
	}
}

// P7.1: lines.
func TestMayLines(t *testing.T) {
	long := strings.Repeat("x", 80)
	for _, x := range []struct {
		lines []string
		want  bool
	}{
		{nil, true},
		{[]string{}, true},
		{[]string{""}, true},
		{words("a b c"), true},
		{words("b a b"), true},
		{times(200, "a"), true},
		{times(201, "a"), false},
		{times(200, ""), true},
		{times(201, ""), false},
		{times(200, long), true},
		{[]string{long}, true},
		{[]string{long + "x"}, false},
		{[]string{"a", long + "x", "b"}, false},
		{[]string{"\n"}, false},
		{[]string{"a", "b\n"}, false},
		{append(times(199, "a"), "\n"), false},
		{[]string{"\x00\xff\r"}, true},
	} {
		checkMayLines(t, alone(x.lines...), x.want)
		// Lines of one file alone: of the first, the middle and the last one of three.
		for k := range 3 {
			tree := api.Tree{put("a", "x"), put("b", ""), put("c", "y z")}
			tree[k].Lines = x.lines
			checkMayLines(t, tree, x.want)
		}
	}
}

func checkMayLines(t *testing.T, x api.Tree, want bool) {
	t.Helper()
	if got := May(x); got != want || got != toldMay(x) {
		t.Errorf("%.200q: %v", show(x), got)
	}
}

// P7.1: two trees that differ in one thing alone.
func TestSame(t *testing.T) {
	abc := func() api.Tree { return api.Tree{put("a", "x y"), put("b", ""), put("c", "x y z")} }
	checkSame(t, abc(), abc(), true)
	checkSame(t, nil, nil, true)
	checkSame(t, nil, api.Tree{}, true)
	checkSame(t, api.Tree{}, api.Tree{}, true)
	checkSame(t, of("a"), api.Tree{{Name: "a", Lines: []string{}}}, true)
	for k, other := range []api.Tree{
		nil,
		{},
		// A file less, or more.
		abc()[:2],
		abc()[1:],
		{put("a", "x y"), put("c", "x y z")},
		append(abc(), put("d", "")),
		append(of(""), abc()...),
		append(abc(), abc()[2]),
		// A name.
		{put("a", "x y"), put("b", ""), put("d", "x y z")},
		{put("a", "x y"), put("bb", ""), put("c", "x y z")},
		{put("", "x y"), put("b", ""), put("c", "x y z")},
		{put("A", "x y"), put("b", ""), put("c", "x y z")},
		// A line that is another one, one less, one more, and two in another order.
		{put("a", "x z"), put("b", ""), put("c", "x y z")},
		{put("a", "x y"), put("b", "x"), put("c", "x y z")},
		{put("a", "x y"), put("b", ""), put("c", "x y")},
		{put("a", "x y"), put("b", ""), put("c", "x y z z")},
		{put("a", "y x"), put("b", ""), put("c", "x y z")},
		{put("a", "x y"), {Name: "b", Lines: []string{""}}, put("c", "x y z")},
		{{Name: "a", Lines: []string{"x", "y", ""}}, put("b", ""), put("c", "x y z")},
		{{Name: "a", Lines: []string{"xy"}}, put("b", ""), put("c", "x y z")},
		{put("a", "x Y"), put("b", ""), put("c", "x y z")},
		// The order of two files, names and all, or of what is in them.
		{put("b", ""), put("a", "x y"), put("c", "x y z")},
		{put("a", "x y"), put("c", "x y z"), put("b", "")},
		{put("b", "x y"), put("a", ""), put("c", "x y z")},
		{put("a", "x y z"), put("b", ""), put("c", "x y")},
		{put("c", "x y z"), put("b", ""), put("a", "x y")},
	} {
		if Same(abc(), other) || Same(other, abc()) {
			t.Errorf("%d: %v", k, other)
		}
		checkSame(t, other, copied(other), true)
	}
	// Such as may not be are held against each other, too.
	checkSame(t, of("A", "A"), of("A", "A"), true)
	checkSame(t, of("b", "a"), of("b", "a"), true)
	checkSame(t, of("b", "a"), of("a", "b"), false)
	checkSame(t, of("a", "a"), of("a"), false)
	checkSame(t, alone("\n"), alone("\n"), true)
	checkSame(t, alone("\n"), alone(""), false)
	checkSame(t, many(300), many(300), true)
	checkSame(t, many(300), many(301), false)
}

// P7.2: Get.
func TestGet(t *testing.T) {
	abc := api.Tree{put("a", "x y"), put("b", ""), put("c", "z")}
	twice := api.Tree{put("b", "x"), put("a", "y"), put("b", "z"), put("a", ""), put("c", ""), put("c", "v")}
	odd := api.Tree{{Name: ""}, {Name: "A", Lines: []string{"\n"}}, {Name: "", Lines: words("x")}}
	for _, x := range []struct {
		t    api.Tree
		name string
		want []string
		is   bool
	}{
		{abc, "a", words("x y"), true},
		{abc, "c", words("z"), true},
		// Without lines.
		{abc, "b", nil, true},
		// Not there: ahead of all, between, behind all, a beginning, and one that goes on.
		{abc, ".", nil, false},
		{abc, "aa", nil, false},
		{abc, "d", nil, false},
		{abc, "", nil, false},
		{abc, "A", nil, false},
		{abc, "a\x00", nil, false},
		{of("abc"), "ab", nil, false},
		{of("ab"), "abc", nil, false},
		{nil, "a", nil, false},
		{api.Tree{}, "a", nil, false},
		{nil, "", nil, false},
		// There twice: the first one counts.
		{twice, "b", words("x"), true},
		{twice, "a", words("y"), true},
		{twice, "c", nil, true},
		{twice, "d", nil, false},
		// Names that may not be, and lines.
		{odd, "", nil, true},
		{odd, "A", []string{"\n"}, true},
		{odd, "a", nil, false},
	} {
		l, is := Get(x.t, x.name)
		if is != x.is || !slices.Equal(l, x.want) {
			t.Errorf("%v, %q: %q, %v", x.t, x.name, l, is)
		}
		checkGet(t, x.t, x.name)
	}
}

// P7.2: Put; and the chapter's example.
func TestPut(t *testing.T) {
	for _, x := range []struct {
		t          api.Tree
		name, line string
		want       api.Tree
	}{
		// The chapter's example.
		{of("b"), "a", "", of("a", "b")},
		{Put(nil, "b", nil), "a", "", of("a", "b")},
		// There: all others stay, and its old lines are gone, fewer or more.
		{api.Tree{put("a", "x"), put("b", "y z"), put("c", "v")}, "a", "n m", api.Tree{put("a", "n m"), put("b", "y z"), put("c", "v")}},
		{api.Tree{put("a", "x"), put("b", "y z"), put("c", "v")}, "b", "n", api.Tree{put("a", "x"), put("b", "n"), put("c", "v")}},
		{api.Tree{put("a", "x"), put("b", "y z"), put("c", "v")}, "c", "", api.Tree{put("a", "x"), put("b", "y z"), put("c", "")}},
		// Ahead of all, in the midst, behind all.
		{api.Tree{put("b", "x"), put("d", "y")}, "a", "n", api.Tree{put("a", "n"), put("b", "x"), put("d", "y")}},
		{api.Tree{put("b", "x"), put("d", "y")}, "c", "n", api.Tree{put("b", "x"), put("c", "n"), put("d", "y")}},
		{api.Tree{put("b", "x"), put("d", "y")}, "e", "n", api.Tree{put("b", "x"), put("d", "y"), put("e", "n")}},
		// A beginning is less.
		{of("a", "b"), "aa", "", of("a", "aa", "b")},
		{of("aa", "b"), "a", "", of("a", "aa", "b")},
		{of("9", "a"), "10", "", of("10", "9", "a")},
		// No files.
		{nil, "a", "n", api.Tree{put("a", "n")}},
		{api.Tree{}, "a", "", of("a")},
		// Names that do not rise: ahead of the first one that is greater.
		{of("d", "a", "c"), "b", "", of("b", "d", "a", "c")},
		{of("a", "d", "a", "c"), "b", "", of("a", "b", "d", "a", "c")},
		{of("c", "b", "a"), "d", "", of("c", "b", "a", "d")},
		{of("c", "b", "a"), "aa", "", of("aa", "c", "b", "a")},
		{of("b", "a"), "bb", "", of("b", "a", "bb")},
		{of("a", "a", "c", "c"), "b", "", of("a", "a", "b", "c", "c")},
		// But there is such a file behind a greater one, or ahead of it.
		{api.Tree{put("c", "x"), put("b", "y")}, "b", "n", api.Tree{put("c", "x"), put("b", "n")}},
		{api.Tree{put("c", "x"), put("b", "y")}, "c", "n", api.Tree{put("c", "n"), put("b", "y")}},
		// There twice: the first one has the lines.
		{api.Tree{put("a", "x"), put("a", "y")}, "a", "n", api.Tree{put("a", "n"), put("a", "y")}},
		{api.Tree{put("b", "x"), put("a", "y"), put("b", "z"), put("a", "v")}, "a", "n", api.Tree{put("b", "x"), put("a", "n"), put("b", "z"), put("a", "v")}},
		// Names that may not be: they are put all the same.
		{of("a"), "", "n", api.Tree{put("", "n"), put("a", "")}},
		{of("a"), "A", "n", api.Tree{put("A", "n"), put("a", "")}},
		{of("a", "é"), "\xff", "n", api.Tree{put("a", ""), put("é", ""), put("\xff", "n")}},
		{of("", "a"), "", "n", api.Tree{put("", "n"), put("a", "")}},
	} {
		if got := Put(x.t, x.name, words(x.line)); show(got) != show(x.want) {
			t.Errorf("%v, %q, %q: %v", x.t, x.name, x.line, got)
		}
		checkPut(t, x.t, x.name, words(x.line))
	}
	// Lines that may not be, and more files than may be.
	for _, l := range [][]string{{"\n"}, {""}, times(201, "a"), {strings.Repeat("x", 81)}} {
		checkPut(t, of("a", "c"), "b", l)
		checkPut(t, of("a", "b"), "b", l)
		checkPut(t, nil, "b", l)
	}
	checkPut(t, many(29), "g", nil)
	checkPut(t, many(30), "g", nil)
	checkPut(t, many(30), "a", words("x"))
	checkPut(t, many(30), "f010", words("y"))
	checkPut(t, many(300), "f0100", words("y"))
}

// P7.2: Del.
func TestDel(t *testing.T) {
	abc := api.Tree{put("a", "x y"), put("b", ""), put("c", "z")}
	for _, x := range []struct {
		t    api.Tree
		name string
		want api.Tree
	}{
		{abc, "a", abc[1:]},
		{abc, "b", api.Tree{abc[0], abc[2]}},
		{abc, "c", abc[:2]},
		{of("a"), "a", nil},
		// Not there.
		{abc, ".", abc},
		{abc, "aa", abc},
		{abc, "d", abc},
		{abc, "", abc},
		{nil, "a", nil},
		{api.Tree{}, "a", nil},
		{nil, "", nil},
		// There twice: the first one is gone.
		{api.Tree{put("a", "x"), put("a", "y")}, "a", api.Tree{put("a", "y")}},
		{api.Tree{put("b", "x"), put("a", "y"), put("b", "z")}, "b", api.Tree{put("a", "y"), put("b", "z")}},
		{api.Tree{put("b", "x"), put("a", "y"), put("b", "z"), put("b", "v")}, "b", api.Tree{put("a", "y"), put("b", "z"), put("b", "v")}},
		// Names that fall, and such as may not be.
		{of("c", "b", "a"), "a", of("c", "b")},
		{of("c", "b", "a"), "c", of("b", "a")},
		{of("", "A"), "", of("A")},
		{of("", "A"), "A", of("")},
		{of("a"), "A", of("a")},
	} {
		if got := Del(x.t, x.name); show(got) != show(x.want) {
			t.Errorf("%v, %q: %v", x.t, x.name, got)
		}
		checkDel(t, x.t, x.name)
	}
	checkDel(t, many(30), "f010")
	checkDel(t, many(300), "f010")
}

// P7.3: Names.
func TestNames(t *testing.T) {
	for _, x := range []struct {
		a, b api.Tree
		want string
	}{
		{of("a", "c"), of("b", "d"), "a b c d"},
		{of("a", "b"), of("b", "c"), "a b c"},
		// The same names, whatever the lines.
		{of("a", "b", "c"), of("a", "b", "c"), "a b c"},
		{api.Tree{put("a", "x"), put("b", "y")}, api.Tree{put("a", "z"), put("b", "")}, "a b"},
		// None in common: all of one ahead of the other.
		{of("a", "b"), of("c", "d"), "a b c d"},
		{of("x"), of("a", "b", "z"), "a b x z"},
		// None at all.
		{nil, nil, ""},
		{nil, api.Tree{}, ""},
		{of("a", "b"), nil, "a b"},
		{of("a", "b"), api.Tree{}, "a b"},
		// There twice, in one, or in both.
		{of("a", "a"), nil, "a"},
		{of("a", "a", "b"), of("b", "b"), "a b"},
		{of("b", "a", "b"), of("a", "b", "a"), "a b"},
		// Names that do not rise.
		{of("c", "b", "a"), nil, "a b c"},
		{of("d", "a"), of("c", "b"), "a b c d"},
		// A beginning is less; byte by byte.
		{of("abc", "ab"), of("b", "a"), "a ab abc b"},
		{of("a", "10"), of("9", ".", "aa"), ". 10 9 a aa"},
		// Such as may not be.
		{of("a", "A"), of("\xff", "é", "Z"), "A Z a é \xff"},
	} {
		if got := Names(x.a, x.b); !slices.Equal(got, words(x.want)) {
			t.Errorf("%v, %v: %q", x.a, x.b, got)
		}
		checkNames(t, x.a, x.b)
	}
	if got := Names(of("b", ""), of("", "a")); !slices.Equal(got, []string{"", "a", "b"}) {
		t.Errorf("without a name: %q", got)
	}
	checkNames(t, many(300), many(200))
	// However a map is gone through, the answer is the same.
	back := many(60)
	slices.Reverse(back)
	for range 50 {
		checkNames(t, back, many(20))
	}
}

// all are all trees of at most n files of the names, with the lists of lines.
func all(n int, names []string, lists ...[]string) []api.Tree {
	out, level := []api.Tree{nil}, []api.Tree{nil}
	for range n {
		var next []api.Tree
		for _, t := range level {
			for _, name := range names {
				for _, l := range lists {
					next = append(next, append(copied(t), api.File{Name: name, Lines: l}))
				}
			}
		}
		out, level = append(out, next...), next
	}
	return out
}

// P7.1 to P7.4: all trees of at most three files, whether they may be or not.
func TestAllSmallTrees(t *testing.T) {
	names := []string{"", "a", "aa", "b", "B"}
	trees := all(3, names, nil, words("x"), []string{"\n"})
	for _, x := range trees {
		checkMay(t, x)
		for _, name := range append(names, "c", "ab") {
			checkGet(t, x, name)
			checkDel(t, x, name)
			checkPut(t, x, name, nil)
			checkPut(t, x, name, words("y x"))
		}
	}
	for k, x := range trees {
		checkSame(t, x, copied(x), true)
		// Not all pairs, but each tree with some of each size.
		for n := k % 13; n < len(trees); n += 13 {
			checkSame(t, x, trees[n], show(x) == show(trees[n]))
		}
	}
	short := all(2, names, nil, words("x"))
	for _, a := range short {
		for _, b := range short {
			checkSame(t, a, b, show(a) == show(b))
			checkNames(t, a, b)
		}
	}
}

// P7.2, P7.4: files put one by one, in whatever order, rise; taken away, in whatever order, none is left.
func TestPutInAllOrders(t *testing.T) {
	names := []string{"a", "aa", "ab", "b", "."}
	want := words(". a aa ab b")
	orders(names, func(order []string) {
		var x api.Tree
		for k, name := range order {
			checkPut(t, x, name, []string{name})
			x = Put(x, name, []string{name})
			if !May(x) || len(x) != k+1 {
				t.Errorf("%q: %v", order[:k+1], x)
			}
		}
		if !slices.Equal(Names(x, nil), want) {
			t.Errorf("%q: %v", order, x)
		}
		for _, name := range want {
			if l, is := Get(x, name); !is || !slices.Equal(l, []string{name}) {
				t.Errorf("%q: %q: %q, %v", order, name, l, is)
			}
		}
		for _, name := range slices.Backward(order) {
			checkDel(t, x, name)
			x = Del(x, name)
		}
		if len(x) != 0 {
			t.Errorf("%q: %v is left", order, x)
		}
	})
}

// orders does f for the names in each order.
func orders(names []string, f func([]string)) {
	if len(names) < 2 {
		f(names)
		return
	}
	for k, name := range names {
		orders(slices.Delete(slices.Clone(names), k, k+1), func(rest []string) {
			f(append([]string{name}, rest...))
		})
	}
}

// P7.4: what is put back as it was leaves the tree as it was.
func TestPutBack(t *testing.T) {
	for _, x := range all(3, words("a b"), nil, words("x"), words("x y")) {
		for _, f := range x {
			was, _ := Get(x, f.Name)
			if back := Put(Put(x, f.Name, words("n")), f.Name, was); !Same(back, x) {
				t.Errorf("%v, %q: %v", x, f.Name, back)
			}
		}
	}
}

// markedLines is l with room behind it, in which a write is seen; marked is a tree with such lines, and such room.
func markedLines(l []string) []string {
	return append(slices.Clone(l), "mark", "mark")[:len(l)]
}

func marked(t api.Tree) api.Tree {
	out := append(copied(t), put("mark", "mark"), put("mark", "mark"))[:len(t)]
	for k := range out {
		out[k].Lines = markedLines(out[k].Lines)
	}
	return out
}

// unmarkedLines tells whether a list is still as markedLines made it of was, unmarked whether a tree is.
func unmarkedLines(l, was []string) bool {
	return slices.Equal(l[:len(was)+2], append(slices.Clone(was), "mark", "mark"))
}

func unmarked(t, was api.Tree) bool {
	if show(t[:len(was)+2]) != show(append(copied(was), put("mark", "mark"), put("mark", "mark"))) {
		return false
	}
	for k := range was {
		if !unmarkedLines(t[k].Lines, was[k].Lines) {
			return false
		}
	}
	return true
}

// spoilLines writes over a list, and over the room behind it; spoil over a tree, and all lines of its files.
func spoilLines(l []string) {
	l = l[:cap(l)]
	for k := range l {
		l[k] = "spoilt"
	}
}

func spoil(t api.Tree) {
	t = t[:cap(t)]
	for k := range t {
		spoilLines(t[k].Lines)
		t[k] = put("spoilt", "spoilt")
	}
}

// checkApart holds R3 of an answered tree: none of its files shares lines with another one.
func checkApart(t *testing.T, x api.Tree) {
	t.Helper()
	for k := range x {
		was := copied(x)
		spoilLines(x[k].Lines)
		was[k] = x[k]
		if show(x) != show(was) {
			t.Errorf("%v: file %d shares its lines", was, k)
		}
	}
}

// checkOwn holds R3 of all calls, of a tree, a name, and lines.
func checkOwn(t *testing.T, was api.Tree, name string, wasLines []string) {
	t.Helper()
	x, l := marked(was), markedLines(wasLines)
	stays := func(what string) {
		t.Helper()
		if !unmarked(x, was) || !unmarkedLines(l, wasLines) {
			t.Fatalf("%v, %q, %q: what was handed in is now %v, %q: %s", was, name, wasLines, x, l, what)
		}
	}
	got, _ := Get(x, name)
	names := Names(x, x)
	with, without := Put(x, name, l), Del(x, name)
	May(x)
	Same(x, x)
	stays("changed")
	checkApart(t, Put(x, name, l))
	checkApart(t, Del(x, name))
	stays("changed, as an answer's lines are")
	spoilLines(got)
	spoilLines(names)
	spoil(with)
	spoil(without)
	stays("shared with what is answered")
	got, _ = Get(x, name)
	names = Names(x, x)
	with, without = Put(x, name, l), Del(x, name)
	spoil(x)
	spoilLines(l)
	if want, _ := toldGet(was, name); !slices.Equal(got, want) {
		t.Errorf("%v, %q: Get: %q then", was, name, got)
	}
	if !slices.Equal(names, toldNames(was, nil)) {
		t.Errorf("%v: Names: %q then", was, names)
	}
	if show(with) != show(toldPut(was, name, wasLines)) {
		t.Errorf("%v, %q, %q: Put: %v then", was, name, wasLines, with)
	}
	if show(without) != show(toldDel(was, name)) {
		t.Errorf("%v, %q: Del: %v then", was, name, without)
	}
}

// R3: names that are there, and not; trees that may be, and not.
func TestNothingIsShared(t *testing.T) {
	for _, x := range all(2, []string{"a", "b", ""}, nil, []string{}, words("x y"), []string{"\n"}) {
		for _, name := range []string{"a", "b", "c", "", "aa"} {
			for _, l := range [][]string{nil, {}, words("n m v"), {"\n"}} {
				checkOwn(t, x, name, l)
			}
		}
	}
	checkOwn(t, many(30), "f010", words("n"))
	checkOwn(t, many(30), "a", times(200, "n"))
	checkOwn(t, many(30), "z", nil)
}

// R3: two files and what is put are one list, or pieces of one.
func TestOneListThreeTimes(t *testing.T) {
	was := words("x y z")
	l := markedLines(was)
	x := api.Tree{{Name: "a", Lines: l}, {Name: "c", Lines: l}, {Name: "d", Lines: l[:1]}, {Name: "e", Lines: l[1:1]}}
	for _, name := range words("a b c d e f") {
		for _, lines := range [][]string{l, l[:2], l[1:], l[:0]} {
			with := Put(x, name, lines)
			if want := toldPut(x, name, lines); show(with) != show(want) {
				t.Errorf("%v, %q, %q: %v", x, name, lines, with)
			}
			checkApart(t, with)
			checkApart(t, Del(x, name))
			if !unmarkedLines(l, was) {
				t.Fatalf("%q, %q: %q", name, lines, l)
			}
		}
	}
}

// R3: an answer that goes on as another call's tree stays, too.
func TestAnswersStay(t *testing.T) {
	first := Put(Put(Put(nil, "b", words("x")), "d", words("y z")), "f", nil)
	want := show(first)
	for _, name := range words("a b c d e f g") {
		spoil(Put(first, name, words("n")))
		spoil(Del(first, name))
		l, _ := Get(first, name)
		spoilLines(append(l, "n"))
		spoilLines(append(Names(first, nil), "n"))
		if show(first) != want {
			t.Fatalf("%q: %v", name, first)
		}
	}
}

// R5: what is asked does not hang on what was asked ahead of it.
func TestAskedOnceMore(t *testing.T) {
	ask := func() string {
		x := api.Tree{put("b", "x y"), put("c", "")}
		l, is := Get(x, "b")
		return fmt.Sprint(May(x), Same(x, x), l, is, Put(x, "a", words("n")), Del(x, "b"), Names(x, of("a")))
	}
	first := ask()
	if want := "true true [x y] true [{a [n]} {b [x y]} {c []}] [{c []}] [a b c]"; first != want {
		t.Errorf("%s, not %s", first, want)
	}
	Put(of("z", "b"), "b", words("s t"))
	Del(of("b", "b"), "b")
	Names(of("q"), of("r"))
	Get(nil, "b")
	if again := ask(); again != first {
		t.Errorf("%s, and then %s", first, again)
	}
}

// R6: nil and empty lists are the same.
func TestNothing(t *testing.T) {
	for _, none := range []api.Tree{nil, {}} {
		for _, noLines := range [][]string{nil, {}} {
			x := api.Tree{{Name: "a", Lines: noLines}}
			checkMay(t, x)
			checkSame(t, x, Put(none, "a", noLines), true)
			checkSame(t, none, Del(x, "a"), true)
			checkGet(t, x, "a")
			checkGet(t, none, "a")
			checkPut(t, none, "", noLines)
			checkNames(t, none, x)
		}
		checkSame(t, none, nil, true)
		checkMay(t, none)
		checkNames(t, none, none)
	}
}

// made is a tree of the words of s: each is a name, and behind each = a line.
func made(s string) api.Tree {
	var t api.Tree
	for _, word := range strings.Split(s, " ") {
		parts := strings.Split(word, "=")
		t = append(t, api.File{Name: parts[0], Lines: parts[1:]})
	}
	return t
}

func FuzzTree(f *testing.F) {
	f.Add("a=x=y b c=z", "b d", "b", "n m")
	f.Add("b a b=x", "", "b", "")
	f.Add("", "a a", "", "\n")
	f.Add("A aaaaaaaaaaaaaaaaa", "\xff", "a", "x")
	f.Fuzz(func(t *testing.T, one, other, name, lines string) {
		a, b, l := made(one), made(other), strings.Split(lines, " ")
		checkMay(t, a)
		checkSame(t, a, b, show(a) == show(b))
		checkSame(t, a, copied(a), true)
		checkGet(t, a, name)
		checkPut(t, a, name, l)
		checkDel(t, a, name)
		checkNames(t, a, b)
		checkOwn(t, a, name, l)
		// And a name that is there.
		checkGet(t, a, a[len(a)-1].Name)
		checkPut(t, a, a[len(a)-1].Name, l)
		checkDel(t, a, a[len(a)-1].Name)
	})
}
