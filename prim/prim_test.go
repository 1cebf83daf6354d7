package prim

import (
	"fmt"
	"math"
	"slices"
	"strings"
	"testing"

	"quiltmaker/api"
	"quiltmaker/tree"
)

// words is a list of the words of s.
func words(s string) []string { return strings.Fields(s) }

// of is n bytes of s, one behind the other; many a list of n lines s.
func of(n int, s string) string { return strings.Repeat(s, n) }

func many(n int, s string) []string { return slices.Repeat([]string{s}, n) }

// file is a file with lines.
func file(name, lines string) api.File { return api.File{Name: name, Lines: words(lines)} }

// files is a tree of n files, by rising names.
func files(n int) api.Tree {
	var t api.Tree
	for k := range n {
		t = append(t, file(fmt.Sprintf("f%03d", k), ""))
	}
	return t
}

func hunkOf(at int, old, now string) api.Hunk {
	return api.Hunk{At: at, Old: words(old), New: words(now)}
}

// add, rm, move, patch and set are changes of each kind, as they may be.
func add(name string) api.Prim { return api.Prim{Kind: 0, Name: name} }

func rm(name string) api.Prim { return api.Prim{Kind: 1, Name: name} }

func move(name, to string) api.Prim { return api.Prim{Kind: 2, Name: name, To: to} }

func patch(name string, at int, old, now string) api.Prim {
	return api.Prim{Kind: 3, Name: name, H: hunkOf(at, old, now)}
}

func set(name, old, now string) api.Prim {
	return api.Prim{Kind: 4, Name: name, H: hunkOf(0, old, now)}
}

// to is p with another To, with is p with another H.
func to(p api.Prim, name string) api.Prim {
	p.To = name
	return p
}

func with(p api.Prim, h api.Hunk) api.Prim {
	p.H = h
	return p
}

// equal and equalTrees hold two against each other without a call of what is tested, or of what it stands on.
func equal(p, q api.Prim) bool {
	return p.Kind == q.Kind && p.Name == q.Name && p.To == q.To && p.H.At == q.H.At &&
		slices.Equal(p.H.Old, q.H.Old) && slices.Equal(p.H.New, q.H.New)
}

func equalTrees(a, b api.Tree) bool {
	return slices.EqualFunc(a, b, func(f, g api.File) bool { return f.Name == g.Name && slices.Equal(f.Lines, g.Lines) })
}

// copied is a tree once more.
func copied(t api.Tree) api.Tree {
	t = slices.Clone(t)
	for k := range t {
		t[k].Lines = slices.Clone(t[k].Lines)
	}
	return t
}

// mayName, mayLines and mayHunk are what P1.1 and P5.1 tell, byte by byte.
func mayName(s string) bool {
	for k := range len(s) {
		if !strings.Contains("abcdefghijklmnopqrstuvwxyz0123456789.", s[k:k+1]) {
			return false
		}
	}
	return 1 <= len(s) && len(s) <= 16
}

func mayLines(l []string) bool {
	return len(l) <= 200 && !slices.ContainsFunc(l, func(s string) bool { return len(s) > 80 || strings.Contains(s, "\n") })
}

func mayHunk(h api.Hunk) bool {
	return 0 <= h.At && h.At <= 1<<20 && mayLines(h.Old) && mayLines(h.New)
}

// toldMay is what P8.1 tells of May, kind by kind.
func toldMay(p api.Prim) bool {
	without := p.H.At == 0 && len(p.H.Old) == 0 && len(p.H.New) == 0
	switch p.Kind {
	case 0, 1:
		return mayName(p.Name) && p.To == "" && without
	case 2:
		return mayName(p.Name) && mayName(p.To) && p.To != p.Name && without
	case 3:
		return mayName(p.Name) && p.To == "" && mayHunk(p.H)
	case 4:
		return mayName(p.Name) && p.To == "" && mayHunk(p.H) && p.H.At == 0
	}
	return false
}

// place is that of the first file of a name, or less than 0.
func place(t api.Tree, name string) int {
	for k := range t {
		if t[k].Name == name {
			return k
		}
	}
	return -1
}

// put is a tree with a file of a name that it has none of: ahead of the first one of a greater name.
func put(t api.Tree, name string, l []string) api.Tree {
	k := 0
	for k < len(t) && t[k].Name < name {
		k++
	}
	return slices.Concat(t[:k], api.Tree{{Name: name, Lines: l}}, t[k:])
}

// toldPatch is a list with a hunk done, line by line.
func toldPatch(l []string, h api.Hunk) ([]string, bool) {
	if h.At > len(l) || len(h.Old) > len(l)-h.At {
		return nil, false
	}
	for k, line := range h.Old {
		if l[h.At+k] != line {
			return nil, false
		}
	}
	return slices.Concat(l[:h.At], h.New, l[h.At+len(h.Old):]), true
}

// toldApply is what P8.2 tells, kind by kind.
func toldApply(t api.Tree, p api.Prim) (api.Tree, api.Errno) {
	if !toldMay(p) {
		return nil, 1
	}
	k := place(t, p.Name)
	if (k >= 0) == (p.Kind == 0) {
		return nil, 5
	}
	if p.Kind == 0 {
		return put(t, p.Name, nil), 0
	}
	if p.Kind >= 3 {
		l, ok := toldPatch(t[k].Lines, p.H)
		if !ok || p.Kind == 4 && len(p.H.Old) != len(t[k].Lines) {
			return nil, 5
		}
		return slices.Concat(t[:k], api.Tree{{Name: p.Name, Lines: l}}, t[k+1:]), 0
	}
	rest := slices.Concat(t[:k], t[k+1:])
	if p.Kind == 1 && len(t[k].Lines) == 0 {
		return rest, 0
	}
	if p.Kind == 2 && place(t, p.To) < 0 {
		return put(rest, p.To, t[k].Lines), 0
	}
	return nil, 5
}

// toldTurn is what P8.3 tells, kind by kind.
func toldTurn(p api.Prim) api.Prim {
	switch p.Kind {
	case 0, 1:
		p.Kind = 1 - p.Kind
	case 2:
		p.Name, p.To = p.To, p.Name
	default:
		p.H.Old, p.H.New = p.H.New, p.H.Old
	}
	return p
}

// rises is whether the names of a tree do, none twice.
func rises(t api.Tree) bool {
	for k := range t {
		if k > 0 && t[k-1].Name >= t[k].Name {
			return false
		}
	}
	return true
}

// checkMay holds P8.1 of May, and that what is turned may be as well.
func checkMay(t *testing.T, p api.Prim) {
	t.Helper()
	want := toldMay(p)
	if got := May(p); got != want {
		t.Errorf("%v: may be: %v", p, got)
	}
	if got := May(Turn(p)); got != want {
		t.Errorf("%v, turned: may be: %v", p, got)
	}
}

// checkTurn holds P8.3, and that turned twice is as nothing.
func checkTurn(t *testing.T, p api.Prim) {
	t.Helper()
	if got, want := Turn(p), toldTurn(p); !equal(got, want) {
		t.Errorf("%v: turned %v, not %v", p, got, want)
	}
	if got := Turn(Turn(p)); !equal(got, p) {
		t.Errorf("%v: turned twice %v", p, got)
	}
}

// checkApply holds P8.2, R4, and, of a tree whose names rise, P8.4.
func checkApply(t *testing.T, x api.Tree, p api.Prim) {
	t.Helper()
	got, e := Apply(x, p)
	want, we := toldApply(x, p)
	if e != we || !equalTrees(got, want) {
		t.Errorf("%v, %v: %v, error %d, not %v, error %d", x, p, got, e, want, we)
	}
	if e != api.OK || !rises(x) {
		return
	}
	if back, e := Apply(got, Turn(p)); e != api.OK || !equalTrees(back, x) {
		t.Errorf("%v, %v: changed back %v, error %d", x, p, back, e)
	}
	// An idle change is one that changes nothing.
	if Idle(p) && !equalTrees(got, x) {
		t.Errorf("%v, %v: idle, but then %v", x, p, got)
	}
}

// P8.1: May, each kind and its edges.
func TestMay(t *testing.T) {
	at := func(n int) api.Hunk { return api.Hunk{At: n} }
	good := hunkOf(0, "x", "y")
	for _, x := range []struct {
		p    api.Prim
		want bool
	}{
		{add("a"), true},
		{rm("a"), true},
		{move("a", "b"), true},
		{patch("a", 3, "x", "y z"), true},
		{set("a", "x", "y z"), true},
		// A Patch or a Set without lines, or idle, may be, too.
		{patch("a", 0, "", ""), true},
		{patch("a", 1<<20, "x", "x"), true},
		{set("a", "", ""), true},
		{set("a", "x", "x"), true},
		// Kinds that are none, whatever else.
		{api.Prim{Kind: -1, Name: "a"}, false},
		{api.Prim{Kind: 5, Name: "a"}, false},
		{api.Prim{Kind: -1, Name: "a", To: "b"}, false},
		{api.Prim{Kind: 5, Name: "a", To: "b"}, false},
		{api.Prim{Kind: -1, Name: "a", H: good}, false},
		{api.Prim{Kind: 5, Name: "a", H: good}, false},
		{api.Prim{Kind: 6, Name: "a"}, false},
		{api.Prim{Kind: 1 << 32, Name: "a"}, false},
		{api.Prim{Kind: math.MinInt, Name: "a"}, false},
		{api.Prim{Kind: math.MaxInt, Name: "a"}, false},
		// A Name that may not be, of each kind; and at the limit.
		{add(""), false},
		{rm(""), false},
		{move("", "b"), false},
		{patch("", 0, "", "x"), false},
		{set("", "", "x"), false},
		{add("A"), false},
		{rm("a b"), false},
		{move("a/b", "b"), false},
		{patch("é", 0, "", "x"), false},
		{set("a\n", "", "x"), false},
		{add(of(16, "a")), true},
		{add(of(17, "a")), false},
		{set(".", "", "x"), true},
		{patch("0.z9", 0, "", "x"), true},
		// To, of each kind.
		{to(add("a"), "b"), false},
		{to(add("a"), "a"), false},
		{to(rm("a"), "b"), false},
		{to(patch("a", 0, "", "x"), "b"), false},
		{to(set("a", "", "x"), "b"), false},
		{to(set("a", "", "x"), "\n"), false},
		{move("a", ""), false},
		{move("a", "a"), false},
		{move("a", "aa"), true},
		{move("a", "A"), false},
		{move("a", "b/c"), false},
		{move("a", of(16, "b")), true},
		{move("a", of(17, "b")), false},
		// H with lines, or not at 0, of an Add, a Rm, a Move.
		{with(add("a"), hunkOf(0, "x", "")), false},
		{with(add("a"), hunkOf(0, "", "x")), false},
		{with(add("a"), at(1)), false},
		{with(add("a"), at(-1)), false},
		{with(rm("a"), hunkOf(0, "x", "")), false},
		{with(rm("a"), hunkOf(0, "", "x")), false},
		{with(rm("a"), at(1)), false},
		{with(rm("a"), at(-1)), false},
		{with(move("a", "b"), hunkOf(0, "x", "")), false},
		{with(move("a", "b"), hunkOf(0, "", "x")), false},
		{with(move("a", "b"), hunkOf(0, "x", "x")), false},
		{with(move("a", "b"), at(1)), false},
		{with(move("a", "b"), at(-1)), false},
		// Empty lists are none.
		{with(add("a"), api.Hunk{Old: []string{}, New: []string{}}), true},
		{with(rm("a"), api.Hunk{Old: []string{}}), true},
		{with(move("a", "b"), api.Hunk{New: []string{}}), true},
		// One line without bytes is one.
		{with(add("a"), api.Hunk{Old: []string{""}}), false},
		{with(rm("a"), api.Hunk{New: []string{""}}), false},
		{with(move("a", "b"), api.Hunk{Old: []string{""}}), false},
		// H of a Set stands at 0, of a Patch where it may.
		{with(set("a", "", ""), at(0)), true},
		{with(set("a", "", ""), at(1)), false},
		{with(set("a", "", ""), hunkOf(1, "x", "y")), false},
		{with(set("a", "", ""), at(-1)), false},
		{with(set("a", "", ""), at(1<<20)), false},
		{patch("a", 1<<20+1, "", ""), false},
		{patch("a", -1, "x", "y"), false},
		{patch("a", math.MinInt, "x", "y"), false},
		{patch("a", math.MaxInt, "x", "y"), false},
		// Lines that may be, and such as may not.
		{with(patch("a", 0, "", ""), api.Hunk{Old: many(200, of(80, "x")), New: many(200, "")}), true},
		{with(patch("a", 0, "", ""), api.Hunk{Old: many(201, "x")}), false},
		{with(patch("a", 0, "", ""), api.Hunk{New: []string{"a", of(81, "x")}}), false},
		{with(patch("a", 0, "", ""), api.Hunk{Old: []string{"\n"}}), false},
		{with(set("a", "", ""), api.Hunk{Old: many(200, ""), New: many(200, of(80, "x"))}), true},
		{with(set("a", "", ""), api.Hunk{New: many(201, "x")}), false},
		{with(set("a", "", ""), api.Hunk{Old: []string{"a", of(81, "x")}}), false},
		{with(set("a", "", ""), api.Hunk{New: []string{"a\nb"}}), false},
	} {
		if got := May(x.p); got != x.want {
			t.Errorf("%v: %v", x.p, got)
		}
		checkMay(t, x.p)
	}
}

var kinds = []int{0, 1, 2, 3, 4, -1, 5, 6, 1 << 32, math.MinInt, math.MaxInt}

// someHunks are such as may be, at 0 and elsewhere, and such as may not.
func someHunks() []api.Hunk {
	return []api.Hunk{
		{}, {Old: []string{}, New: []string{}}, {At: 1}, {At: -1}, {At: 1 << 20}, {At: 1<<20 + 1}, {At: math.MinInt}, {At: math.MaxInt},
		hunkOf(0, "x", ""), hunkOf(0, "", "x"), hunkOf(0, "x y", "z"), hunkOf(1, "x", "x"), hunkOf(-1, "x", "y"),
		{Old: []string{""}}, {New: []string{""}}, {Old: []string{"\n"}}, {New: []string{"a\nb"}},
		{Old: []string{of(81, "x")}}, {New: []string{of(80, "x"), of(81, "x")}},
		{Old: many(200, "x")}, {Old: many(201, "x")}, {New: many(200, "x")}, {New: many(201, "x")}, {At: 2, New: []string{"\n"}},
	}
}

// somePrims are changes of each kind, and of kinds that are none, of names and hunks that may be, and not.
func somePrims() []api.Prim {
	var l []api.Prim
	names := []string{"", "a", "b", "A", ".", "é", "a b", "\n", of(16, "a"), of(17, "a")}
	for _, kind := range kinds {
		for _, name := range names {
			for _, to := range names {
				for _, h := range someHunks() {
					l = append(l, api.Prim{Kind: kind, Name: name, To: to, H: h})
				}
			}
		}
	}
	return l
}

// P8.1 to P8.4, R1: changes that may be, and such as may not be, each thing alone and together; and trees where they would fit.
func TestAllMixed(t *testing.T) {
	trees := []api.Tree{nil, {file("a", ""), file("b", "x y")}, {file("", "x"), file("A", ""), file("a", "x")}}
	for _, p := range somePrims() {
		checkMay(t, p)
		checkTurn(t, p)
		for _, x := range trees {
			checkApply(t, x, p)
		}
	}
}

// P8.1: Same, of changes that differ in one thing alone.
func TestSame(t *testing.T) {
	p := api.Prim{Kind: 3, Name: "a", To: "b", H: hunkOf(1, "x y", "z")}
	for _, x := range []struct {
		p, q api.Prim
		want bool
	}{
		{api.Prim{}, api.Prim{}, true},
		{p, p, true},
		{p, api.Prim{Kind: 3, Name: "a", To: "b", H: hunkOf(1, "x y", "z")}, true},
		// Kind.
		{p, api.Prim{Kind: 4, Name: "a", To: "b", H: p.H}, false},
		{p, api.Prim{Kind: 0, Name: "a", To: "b", H: p.H}, false},
		{p, api.Prim{Kind: 3 + 1<<32, Name: "a", To: "b", H: p.H}, false},
		{add("a"), rm("a"), false},
		{api.Prim{Kind: -1}, api.Prim{Kind: 5}, false},
		// Name.
		{p, api.Prim{Kind: 3, Name: "aa", To: "b", H: p.H}, false},
		{p, api.Prim{Kind: 3, Name: "A", To: "b", H: p.H}, false},
		{p, api.Prim{Kind: 3, Name: "", To: "b", H: p.H}, false},
		// To.
		{p, to(p, "c"), false},
		{p, to(p, ""), false},
		{move("a", "b"), move("b", "a"), false},
		{move("ab", "c"), move("a", "bc"), false},
		// At.
		{p, with(p, hunkOf(0, "x y", "z")), false},
		{p, with(p, hunkOf(-1, "x y", "z")), false},
		{p, with(p, hunkOf(1+1<<32, "x y", "z")), false},
		// Old.
		{p, with(p, hunkOf(1, "x z", "z")), false},
		{p, with(p, hunkOf(1, "y y", "z")), false},
		{p, with(p, hunkOf(1, "y x", "z")), false},
		{p, with(p, hunkOf(1, "x", "z")), false},
		{p, with(p, hunkOf(1, "x y y", "z")), false},
		{p, with(p, hunkOf(1, "", "z")), false},
		// New.
		{p, with(p, hunkOf(1, "x y", "y")), false},
		{p, with(p, hunkOf(1, "x y", "")), false},
		{p, with(p, hunkOf(1, "x y", "z z")), false},
		{set("a", "", ""), with(set("a", "", ""), api.Hunk{New: []string{""}}), false},
		{set("a", "", ""), with(set("a", "", ""), api.Hunk{Old: []string{""}}), false},
		// The same lines, but others of them are old.
		{p, with(p, hunkOf(1, "z", "x y")), false},
		{p, with(p, hunkOf(1, "x", "y z")), false},
		// nil and empty lists are the same.
		{add("a"), with(add("a"), api.Hunk{Old: []string{}, New: []string{}}), true},
		{set("a", "x", ""), with(set("a", "x", ""), api.Hunk{Old: words("x"), New: []string{}}), true},
		{set("a", "", "x"), with(set("a", "", "x"), api.Hunk{Old: nil, New: words("x")}), true},
		// Such as may not be are held against each other, too.
		{api.Prim{Kind: -1, Name: "\n"}, api.Prim{Kind: -1, Name: "\n"}, true},
		{api.Prim{Kind: 7, H: api.Hunk{At: -1, New: many(201, "\n")}}, api.Prim{Kind: 7, H: api.Hunk{At: -1, New: many(201, "\n")}}, true},
		{api.Prim{Kind: 7, H: api.Hunk{New: many(201, "\n")}}, api.Prim{Kind: 7, H: api.Hunk{New: many(202, "\n")}}, false},
	} {
		if got := Same(x.p, x.q); got != x.want {
			t.Errorf("%v and %v: %v", x.p, x.q, got)
		}
		if got := Same(x.q, x.p); got != x.want {
			t.Errorf("%v and %v: %v", x.q, x.p, got)
		}
	}
}

// P8.1: Same, of all pairs of some changes, all of which are others.
func TestSameOfAllPairs(t *testing.T) {
	var l []api.Prim
	for _, kind := range kinds[:7] {
		for _, name := range words("a b") {
			for _, to := range []string{"", "a", "b"} {
				for _, h := range []api.Hunk{{}, {At: 1}, hunkOf(0, "x", ""), hunkOf(0, "", "x"), hunkOf(0, "x", "x"), hunkOf(0, "y", "x")} {
					l = append(l, api.Prim{Kind: kind, Name: name, To: to, H: h})
				}
			}
		}
	}
	for i, p := range l {
		for j, q := range l {
			if got := Same(p, q); got != (i == j) {
				t.Errorf("%v and %v: %v", p, q, got)
			}
		}
	}
}

// P8.1: Idle, of each kind.
func TestIdle(t *testing.T) {
	for _, x := range []struct {
		h    api.Hunk
		same bool
	}{
		{api.Hunk{}, true},
		{api.Hunk{Old: []string{}}, true},
		{api.Hunk{New: []string{}}, true},
		{hunkOf(0, "x", "x"), true},
		{hunkOf(0, "x y", "x y"), true},
		{hunkOf(7, "x y", "x y"), true},
		{api.Hunk{Old: []string{""}, New: []string{""}}, true},
		{hunkOf(0, "x", ""), false},
		{hunkOf(0, "", "x"), false},
		{hunkOf(0, "x", "y"), false},
		{hunkOf(0, "x y", "x z"), false},
		{hunkOf(0, "x y", "z y"), false},
		{hunkOf(0, "x y", "y x"), false},
		{hunkOf(0, "x y", "x"), false},
		{hunkOf(0, "x", "x x"), false},
		{api.Hunk{Old: []string{""}}, false},
		{api.Hunk{New: []string{""}}, false},
		{hunkOf(0, "xy", "x y"), false},
		// Such as may not be are asked the same.
		{hunkOf(-1, "x", "x"), true},
		{hunkOf(1<<20+1, "x", "y"), false},
		{api.Hunk{Old: []string{"\n"}, New: []string{"\n"}}, true},
		{api.Hunk{Old: many(201, "x"), New: many(201, "x")}, true},
		{api.Hunk{Old: many(201, "x"), New: many(200, "x")}, false},
	} {
		for _, kind := range kinds {
			for _, name := range []string{"a", "", "A"} {
				for _, to := range []string{"", "b"} {
					p := api.Prim{Kind: kind, Name: name, To: to, H: x.h}
					want := x.same && (kind == 3 || kind == 4)
					if got := Idle(p); got != want {
						t.Errorf("%v: %v", p, got)
					}
				}
			}
		}
	}
}

// P8.2: changes that fit.
func TestApply(t *testing.T) {
	one := api.Tree{file("b", "x y z"), file("d", "")}
	for _, x := range []struct {
		t    api.Tree
		p    api.Prim
		want api.Tree
	}{
		// Add: ahead, in the midst, behind; to no files.
		{one, add("a"), api.Tree{file("a", ""), one[0], one[1]}},
		{one, add("c"), api.Tree{one[0], file("c", ""), one[1]}},
		{one, add("e"), api.Tree{one[0], one[1], file("e", "")}},
		{one, add("bb"), api.Tree{one[0], file("bb", ""), one[1]}},
		{nil, add("a"), api.Tree{file("a", "")}},
		{api.Tree{}, add("a"), api.Tree{file("a", "")}},
		// Rm: of a file without lines.
		{one, rm("d"), one[:1]},
		{api.Tree{file("a", ""), one[0]}, rm("a"), one[:1]},
		{api.Tree{file("d", "")}, rm("d"), nil},
		// Move: with lines and without, farther ahead, farther behind, or where it stood.
		{one, move("b", "a"), api.Tree{file("a", "x y z"), one[1]}},
		{one, move("b", "c"), api.Tree{file("c", "x y z"), one[1]}},
		{one, move("b", "e"), api.Tree{one[1], file("e", "x y z")}},
		{one, move("d", "a"), api.Tree{file("a", ""), one[0]}},
		{one, move("d", "f"), api.Tree{one[0], file("f", "")}},
		{api.Tree{file("a", "x")}, move("a", "b"), api.Tree{file("b", "x")}},
		// Patch: lines that are put, gone, others; at 0, in the midst, at the end; in the first file, and in the last one.
		{one, patch("b", 0, "", "v"), api.Tree{file("b", "v x y z"), one[1]}},
		{one, patch("b", 1, "y", ""), api.Tree{file("b", "x z"), one[1]}},
		{one, patch("b", 1, "y z", "v w u"), api.Tree{file("b", "x v w u"), one[1]}},
		{one, patch("b", 3, "", "v"), api.Tree{file("b", "x y z v"), one[1]}},
		{one, patch("b", 0, "x y z", ""), api.Tree{file("b", ""), one[1]}},
		{one, patch("d", 0, "", "v w"), api.Tree{one[0], file("d", "v w")}},
		// Patch: idle, with lines, without any, and at the end.
		{one, patch("b", 1, "y", "y"), one},
		{one, patch("b", 1, "", ""), one},
		{one, patch("b", 3, "", ""), one},
		{one, patch("d", 0, "", ""), one},
		// Set: others, fewer, more, none, and of none.
		{one, set("b", "x y z", "x v z"), api.Tree{file("b", "x v z"), one[1]}},
		{one, set("b", "x y z", "v"), api.Tree{file("b", "v"), one[1]}},
		{one, set("b", "x y z", "x y z v"), api.Tree{file("b", "x y z v"), one[1]}},
		{one, set("b", "x y z", ""), api.Tree{file("b", ""), one[1]}},
		{one, set("d", "", "v w"), api.Tree{one[0], file("d", "v w")}},
		// Set: idle.
		{one, set("b", "x y z", "x y z"), one},
		{one, set("d", "", ""), one},
	} {
		got, e := Apply(x.t, x.p)
		if e != api.OK || !equalTrees(got, x.want) {
			t.Errorf("%v, %v: %v, error %d", x.t, x.p, got, e)
		}
		checkApply(t, x.t, x.p)
	}
}

// P8.2: the chapter's example.
func TestExample(t *testing.T) {
	x, e := Apply(nil, add("a"))
	if e != api.OK || !equalTrees(x, api.Tree{{Name: "a"}}) {
		t.Fatalf("a added: %v, error %d", x, e)
	}
	x, e = Apply(x, patch("a", 0, "", "x"))
	if e != api.OK || !equalTrees(x, api.Tree{file("a", "x")}) {
		t.Errorf("x at 0: %v, error %d", x, e)
	}
}

// P8.2, R4: changes that do not fit.
func TestApplyWhatDoesNotFit(t *testing.T) {
	one := api.Tree{file("a", "x y z"), file("b", "")}
	for _, x := range []struct {
		t api.Tree
		p api.Prim
	}{
		// Add: the file is there, with lines or without.
		{one, add("a")},
		{one, add("b")},
		// Rm: it is not there, or has lines, if only an empty one.
		{one, rm("c")},
		{one, rm("aa")},
		{nil, rm("a")},
		{one, rm("a")},
		{api.Tree{{Name: "a", Lines: []string{""}}}, rm("a")},
		// Move: it is not there, there is one To, or both.
		{one, move("c", "d")},
		{nil, move("a", "b")},
		{one, move("a", "b")},
		{one, move("b", "a")},
		{one, move("c", "a")},
		{one, move("c", "b")},
		// Patch: it is not there, even if idle.
		{one, patch("c", 0, "", "x")},
		{one, patch("c", 0, "", "")},
		{nil, patch("a", 0, "", "x")},
		// Patch: other lines stand there.
		{one, patch("a", 0, "y", "v")},
		{one, patch("a", 1, "x", "v")},
		{one, patch("a", 0, "x z", "v")},
		{one, patch("a", 0, "x y v", "")},
		{one, patch("a", 1, "v", "y")},
		{one, patch("a", 1, "Y", "v")},
		{one, patch("b", 0, "x", "v")},
		// Patch: it ends behind the last line, or begins there.
		{one, patch("a", 0, "x y z v", "")},
		{one, patch("a", 2, "z z", "")},
		{one, patch("a", 3, "z", "")},
		{one, patch("a", 4, "", "v")},
		{one, patch("a", 4, "", "")},
		{one, patch("b", 1, "", "v")},
		{one, patch("a", 1<<20, "", "v")},
		{one, patch("a", 1<<20, "x", "v")},
		// Set: it is not there, even if idle.
		{one, set("c", "", "x")},
		{one, set("c", "", "")},
		{nil, set("a", "", "x")},
		// Set: Old is not its lines: one is another, or there are fewer, or more.
		{one, set("a", "v y z", "v")},
		{one, set("a", "x v z", "v")},
		{one, set("a", "x y v", "v")},
		{one, set("a", "x z y", "v")},
		{one, set("a", "x y", "v")},
		{one, set("a", "y z", "v")},
		{one, set("a", "x y z z", "v")},
		{one, set("a", "", "v")},
		{one, set("a", "", "x y z")},
		{one, set("b", "x", "v")},
		{one, with(set("b", "", ""), api.Hunk{Old: []string{""}})},
	} {
		if got, e := Apply(x.t, x.p); e != api.ErrApply || len(got) != 0 {
			t.Errorf("%v, %v: %v, error %d", x.t, x.p, got, e)
		}
		checkApply(t, x.t, x.p)
	}
}

// P8.2, R2, R4: changes that may not be, with trees where they would fit, and where they would not.
func TestApplyWhatMayNotBe(t *testing.T) {
	one := api.Tree{file("", "x"), file("A", ""), file("a", "x y"), file("b", "")}
	for _, p := range []api.Prim{
		// It would fit, but for one thing.
		{Kind: -1, Name: "c"},
		{Kind: 5, Name: "a", H: hunkOf(0, "x y", "")},
		add("B"),
		rm("A"),
		add(of(17, "c")),
		move("A", "c"),
		move("", "c"),
		move("a", "C"),
		patch("", 0, "x", ""),
		patch("A", 0, "", "x"),
		set("", "x", ""),
		to(add("c"), "d"),
		to(rm("b"), "d"),
		to(patch("a", 0, "x", ""), "d"),
		to(set("a", "x y", ""), "d"),
		with(add("c"), hunkOf(0, "", "x")),
		with(add("c"), api.Hunk{At: 1}),
		with(rm("b"), hunkOf(0, "x", "")),
		with(rm("b"), api.Hunk{At: 1}),
		with(move("a", "c"), hunkOf(0, "x", "")),
		with(move("a", "c"), api.Hunk{At: 2}),
		with(set("a", "", ""), hunkOf(1, "x y", "")),
		with(set("a", "", ""), hunkOf(1, "y", "")),
		with(patch("a", 0, "", ""), api.Hunk{New: []string{"\n"}}),
		with(patch("a", 0, "", ""), api.Hunk{New: many(201, "x")}),
		with(patch("a", 0, "", ""), api.Hunk{New: []string{of(81, "x")}}),
		with(set("a", "", ""), api.Hunk{Old: words("x y"), New: []string{"\n"}}),
		with(set("b", "", ""), api.Hunk{New: many(201, "x")}),
		// It would not fit, either.
		{Kind: -1, Name: "a"},
		{Kind: 5, Name: "c"},
		{Kind: math.MaxInt, Name: "c"},
		{Kind: math.MinInt},
		add("A"),
		add(""),
		rm("C"),
		to(add("a"), "d"),
		to(rm("a"), "d"),
		move("a", "a"),
		move("c", "c"),
		move("c", "A"),
		with(move("c", "b"), hunkOf(0, "", "x")),
		patch("a", -1, "x", ""),
		patch("a", 1<<20+1, "", "x"),
		patch("c", -1, "", "x"),
		patch("a", math.MaxInt, "x", "y"),
		to(set("a", "x", ""), "d"),
		with(set("c", "", ""), api.Hunk{At: 1}),
	} {
		if got, e := Apply(one, p); e != api.ErrArg || len(got) != 0 {
			t.Errorf("%v: %v, error %d", p, got, e)
		}
		if May(p) {
			t.Errorf("%v may be", p)
		}
		checkApply(t, one, p)
		checkApply(t, nil, p)
	}
	// Lines that stand there, but may not be in a hunk.
	for _, l := range [][]string{{"\n"}, {of(81, "x")}, many(201, "a")} {
		x := api.Tree{{Name: "a", Lines: l}}
		for _, p := range []api.Prim{set("a", "", ""), patch("a", 0, "", "")} {
			if got, e := Apply(x, with(p, api.Hunk{Old: l})); e != api.ErrArg || len(got) != 0 {
				t.Errorf("%d lines, all taken away: %v, error %d", len(l), got, e)
			}
		}
	}
}

// P8.2: the tree is not bounded, before or behind: Apply asks only whether the change may be.
func TestApplyToAnyTree(t *testing.T) {
	for _, n := range []int{29, 30, 31, 300} {
		x := files(n)
		if got, e := Apply(x, add("g")); e != api.OK || len(got) != n+1 || got[n].Name != "g" {
			t.Errorf("added to %d files: %d, error %d", n, len(got), e)
		}
		for _, p := range []api.Prim{add("g"), rm("f010"), move("f010", "a"), patch("f010", 0, "", "x"), set("f010", "", "x")} {
			checkApply(t, x, p)
		}
	}
	full := api.Tree{{Name: "a", Lines: many(200, "x")}, {Name: "b", Lines: []string{"\n", "y", of(81, "x")}}}
	for _, p := range []api.Prim{
		with(patch("a", 0, "", ""), api.Hunk{At: 200, New: many(200, "y")}),
		with(set("a", "", ""), api.Hunk{Old: many(200, "x"), New: many(199, "x")}),
		move("a", "c"),
		patch("b", 1, "y", "z v"),
		move("b", "c"),
		rm("b"),
		add("c"),
	} {
		checkApply(t, full, p)
	}
	if got, e := Apply(full, with(patch("a", 0, "", ""), api.Hunk{At: 200, New: many(200, "y")})); e != api.OK || len(got[0].Lines) != 400 {
		t.Errorf("200 lines more: %v, error %d", got, e)
	}
}

// P8.2: of a tree whose names do not rise, or stand there twice, the first file of a name counts.
func TestApplyToNamesThatDoNotRise(t *testing.T) {
	twice := api.Tree{file("b", "x"), file("a", ""), file("b", "y"), file("a", "z")}
	for _, x := range []struct {
		p    api.Prim
		want api.Tree
		e    api.Errno
	}{
		{patch("b", 0, "x", "v"), api.Tree{file("b", "v"), twice[1], twice[2], twice[3]}, api.OK},
		{patch("b", 0, "y", "v"), nil, api.ErrApply},
		{set("a", "", "v"), api.Tree{twice[0], file("a", "v"), twice[2], twice[3]}, api.OK},
		{set("a", "z", "v"), nil, api.ErrApply},
		{rm("a"), api.Tree{twice[0], twice[2], twice[3]}, api.OK},
		{rm("b"), nil, api.ErrApply},
		{move("b", "c"), api.Tree{twice[1], twice[2], twice[3], file("c", "x")}, api.OK},
		{move("a", "."), api.Tree{file(".", ""), twice[0], twice[2], twice[3]}, api.OK},
		{move("b", "a"), nil, api.ErrApply},
		{add("a"), nil, api.ErrApply},
		{add("aa"), api.Tree{file("aa", ""), twice[0], twice[1], twice[2], twice[3]}, api.OK},
	} {
		if got, e := Apply(twice, x.p); e != x.e || !equalTrees(got, x.want) {
			t.Errorf("%v: %v, error %d", x.p, got, e)
		}
		checkApply(t, twice, x.p)
	}
}

// all are all trees of at most n files of the names, with the lists of lines.
func all(n int, names []string, lists ...[]string) []api.Tree {
	out, level := []api.Tree{nil}, []api.Tree{nil}
	for range n {
		var next []api.Tree
		for _, t := range level {
			for _, name := range names {
				for _, l := range lists {
					next = append(next, append(copied(t), api.File{Name: name, Lines: l}))
				}
			}
		}
		out, level = append(out, next...), next
	}
	return out
}

// small are all changes of some names, and of short lists of lines.
func small(names []string, lists ...[]string) []api.Prim {
	var l []api.Prim
	for _, name := range names {
		l = append(l, add(name), rm(name))
		for _, to := range names {
			l = append(l, move(name, to))
		}
		for _, old := range lists {
			for _, now := range lists {
				for at := -1; at <= 3; at++ {
					h := api.Hunk{At: at, Old: old, New: now}
					l = append(l, with(patch(name, 0, "", ""), h), with(set(name, "", ""), h))
				}
			}
		}
	}
	return l
}

// P8.2, P8.4: all small changes of all small trees, whether they may be or not.
func TestAllSmall(t *testing.T) {
	changes := small([]string{"a", "b", "c", "A"}, nil, words("x"), words("y"), words("x y"), words("x x"))
	for _, x := range all(3, []string{"a", "b", "A"}, nil, words("x"), words("x y")) {
		for _, p := range changes {
			checkApply(t, x, p)
		}
	}
}

// P8.4: changes one behind the other, and then turned, the last one first.
func TestBackThroughAll(t *testing.T) {
	var x api.Tree
	was := []api.Tree{x}
	changes := []api.Prim{
		add("b"), patch("b", 0, "", "x y z"), add("a"), patch("b", 1, "y", ""), move("b", "c"), set("c", "x z", "v"),
		move("a", "b"), patch("c", 1, "", "w u"), set("b", "", "s t"), move("c", "a"), set("b", "s t", ""), rm("b"), patch("a", 0, "v w u", ""), rm("a"),
	}
	for _, p := range changes {
		next, e := Apply(x, p)
		if e != api.OK {
			t.Fatalf("%v, %v: error %d", x, p, e)
		}
		checkApply(t, x, p)
		x, was = next, append(was, next)
	}
	if len(x) != 0 {
		t.Errorf("in the end: %v", x)
	}
	for k, p := range slices.Backward(changes) {
		back, e := Apply(x, Turn(p))
		if e != api.OK || !equalTrees(back, was[k]) {
			t.Fatalf("%v, %v turned: %v, error %d, not %v", x, p, back, e, was[k])
		}
		x = back
	}
}

// P8.3: Turn, of each kind, of kinds that are none, and of changes that may not be.
func TestTurn(t *testing.T) {
	h := hunkOf(3, "x y", "z")
	back := hunkOf(3, "z", "x y")
	for _, x := range []struct{ p, want api.Prim }{
		{add("a"), rm("a")},
		{rm("a"), add("a")},
		{move("a", "b"), move("b", "a")},
		{patch("a", 3, "x y", "z"), patch("a", 3, "z", "x y")},
		{patch("a", 0, "", "x"), patch("a", 0, "x", "")},
		{set("a", "x y", "z"), set("a", "z", "x y")},
		{set("a", "", ""), set("a", "", "")},
		// A hunk is not turned, nor names, where only the kind is.
		{api.Prim{Kind: 0, Name: "a", To: "b", H: h}, api.Prim{Kind: 1, Name: "a", To: "b", H: h}},
		{api.Prim{Kind: 1, Name: "a", To: "b", H: h}, api.Prim{Kind: 0, Name: "a", To: "b", H: h}},
		{api.Prim{Kind: 2, Name: "a", To: "b", H: h}, api.Prim{Kind: 2, Name: "b", To: "a", H: h}},
		{move("a", "a"), move("a", "a")},
		{move("a", ""), move("", "a")},
		// Nor names, where the hunk is.
		{api.Prim{Kind: 3, Name: "a", To: "b", H: h}, api.Prim{Kind: 3, Name: "a", To: "b", H: back}},
		{api.Prim{Kind: 4, Name: "a", To: "b", H: h}, api.Prim{Kind: 4, Name: "a", To: "b", H: back}},
		// Kinds that are none.
		{api.Prim{Kind: -1, Name: "a", To: "b", H: h}, api.Prim{Kind: -1, Name: "a", To: "b", H: back}},
		{api.Prim{Kind: 5, Name: "a", To: "b", H: h}, api.Prim{Kind: 5, Name: "a", To: "b", H: back}},
		{api.Prim{Kind: math.MinInt, H: h}, api.Prim{Kind: math.MinInt, H: back}},
		{api.Prim{Kind: math.MaxInt, H: h}, api.Prim{Kind: math.MaxInt, H: back}},
		// Names, places and lines that may not be.
		{rm("A"), add("A")},
		{api.Prim{Kind: 3, Name: "\n", H: api.Hunk{At: -1, Old: []string{"\n"}, New: many(201, "x")}}, api.Prim{Kind: 3, Name: "\n", H: api.Hunk{At: -1, Old: many(201, "x"), New: []string{"\n"}}}},
		{api.Prim{Kind: 4, H: api.Hunk{At: math.MaxInt}}, api.Prim{Kind: 4, H: api.Hunk{At: math.MaxInt}}},
	} {
		if got := Turn(x.p); !equal(got, x.want) {
			t.Errorf("%v: %v", x.p, got)
		}
		checkTurn(t, x.p)
		checkTurn(t, x.want)
	}
}

// marked is l with room behind it, in which a write is seen; markedPrim and markedTree are such with such lines.
func marked(l []string) []string {
	return append(slices.Clone(l), "mark", "mark")[:len(l)]
}

func markedPrim(p api.Prim) api.Prim {
	return with(p, api.Hunk{At: p.H.At, Old: marked(p.H.Old), New: marked(p.H.New)})
}

func markedTree(t api.Tree) api.Tree {
	out := append(copied(t), file("mark", "mark"), file("mark", "mark"))[:len(t)]
	for k := range out {
		out[k].Lines = marked(out[k].Lines)
	}
	return out
}

// unmarked tells whether a list is still as marked made it of was; unmarkedPrim and unmarkedTree the same of theirs.
func unmarked(l, was []string) bool {
	return slices.Equal(l[:len(was)+2], append(slices.Clone(was), "mark", "mark"))
}

func unmarkedPrim(p, was api.Prim) bool {
	return equal(p, was) && unmarked(p.H.Old, was.H.Old) && unmarked(p.H.New, was.H.New)
}

func unmarkedTree(t, was api.Tree) bool {
	if !equalTrees(t[:len(was)+2], append(copied(was), file("mark", "mark"), file("mark", "mark"))) {
		return false
	}
	for k := range was {
		if !unmarked(t[k].Lines, was[k].Lines) {
			return false
		}
	}
	return true
}

// spoil writes over a list, and over the room behind it; spoilPrim over a hunk's, spoilTree over a tree, and all lines of its files.
func spoil(l []string) {
	l = l[:cap(l)]
	for k := range l {
		l[k] = "spoilt"
	}
}

func spoilPrim(p api.Prim) {
	spoil(p.H.Old)
	spoil(p.H.New)
}

func spoilTree(t api.Tree) {
	t = t[:cap(t)]
	for k := range t {
		spoil(t[k].Lines)
		t[k] = file("spoilt", "spoilt")
	}
}

// checkApart holds R3 of an answered tree: none of its files shares lines with another one, nor room behind them.
func checkApart(t *testing.T, x api.Tree) {
	t.Helper()
	for k := range x {
		was := copied(x)
		spoil(x[k].Lines)
		was[k] = x[k]
		if !equalTrees(x, was) {
			t.Errorf("%v: file %d shares its lines", was, k)
		}
	}
}

// checkOwn holds R3 of all calls, of a tree and a change.
func checkOwn(t *testing.T, was api.Tree, wasPrim api.Prim) {
	t.Helper()
	x, p := markedTree(was), markedPrim(wasPrim)
	stays := func(what string) {
		t.Helper()
		if !unmarkedTree(x, was) || !unmarkedPrim(p, wasPrim) {
			t.Fatalf("%v, %v: what was handed in is now %v, %v: %s", was, wasPrim, x, p, what)
		}
	}
	May(p)
	Same(p, p)
	Idle(p)
	got, _ := Apply(x, p)
	turned := Turn(p)
	stays("changed")
	checkApart(t, got)
	spoil(turned.H.Old)
	if !slices.Equal(turned.H.New, toldTurn(wasPrim).H.New) {
		t.Errorf("%v turned: New changes with Old", wasPrim)
	}
	spoilTree(got)
	spoilPrim(turned)
	stays("shared with what is answered")
	got, e := Apply(x, p)
	turned = Turn(p)
	spoilTree(x)
	spoilPrim(p)
	if want, we := toldApply(was, wasPrim); e != we || !equalTrees(got, want) {
		t.Errorf("%v, %v: what was answered is then %v, error %d", was, wasPrim, got, e)
	}
	if !equal(turned, toldTurn(wasPrim)) {
		t.Errorf("%v turned: what was answered is then %v", wasPrim, turned)
	}
}

// R3: changes that fit, and not; that may be, and not; trees whose names rise, and not.
func TestNothingIsShared(t *testing.T) {
	changes := small([]string{"a", "b", "c"}, nil, []string{}, words("x"), words("x y"), []string{"\n"})
	for _, kind := range kinds[:7] {
		for _, h := range someHunks() {
			changes = append(changes, api.Prim{Kind: kind, Name: "a", To: "b", H: h}, api.Prim{Kind: kind, Name: "a", H: h})
		}
	}
	for _, x := range all(2, words("a b"), nil, []string{}, words("x"), words("x y"), []string{"\n"}) {
		for _, p := range changes {
			checkOwn(t, x, p)
		}
	}
	for _, p := range []api.Prim{add("a"), rm("f010"), move("f010", "a"), move("f010", "z"), patch("f010", 0, "", "x"), set("f010", "", "x y")} {
		checkOwn(t, files(30), p)
	}
}

// R3: files and hunks that are one list, or pieces of one.
func TestOneListManyTimes(t *testing.T) {
	was := words("x y x y")
	l := marked(was)
	x := api.Tree{{Name: "a", Lines: l}, {Name: "b", Lines: l[:2]}, {Name: "c", Lines: l[2:]}, {Name: "d", Lines: l[4:]}}
	hunks := []api.Hunk{{Old: l, New: l}, {Old: l[:2], New: l[2:]}, {Old: l[:0], New: l}, {Old: l, New: l[4:]}, {At: 1, Old: l[1:3], New: l[1:2]}}
	changes := []api.Prim{add("e"), rm("d"), move("a", "e"), move("b", ".")}
	for _, name := range words("a b c d") {
		for _, h := range hunks {
			changes = append(changes, with(patch(name, 0, "", ""), h), with(set(name, "", ""), h))
		}
	}
	for _, p := range changes {
		checkApply(t, x, p)
		checkTurn(t, p)
		got, _ := Apply(x, p)
		checkApart(t, got)
		spoilTree(got)
		turned := Turn(p)
		spoil(turned.H.New)
		if !slices.Equal(turned.H.Old, toldTurn(p).H.Old) {
			t.Errorf("%v turned: Old changes with New", p)
		}
		if !unmarked(l, was) {
			t.Fatalf("%v: %q", p, l)
		}
	}
}

// R5: what is asked does not hang on what was asked ahead of it.
func TestAskedOnceMore(t *testing.T) {
	p := patch("a", 1, "y", "z v")
	ask := func() string {
		x := api.Tree{file("a", "x y"), file("b", "")}
		patched, e := Apply(x, p)
		moved, me := Apply(x, move("a", "c"))
		none, ne := Apply(x, rm("a"))
		return fmt.Sprint(patched, e, moved, me, len(none), ne, Turn(p), May(p), Same(p, p), Idle(p))
	}
	first := ask()
	if want := "[{a [x z v]} {b []}] 0 [{b []} {c [x y]}] 0 0 5 {3 a  {1 [z v] [y]}} true true false"; first != want {
		t.Errorf("%s, not %s", first, want)
	}
	Apply(api.Tree{file("a", "s")}, set("a", "s", "t"))
	Apply(nil, api.Prim{Kind: 9})
	Turn(add("a"))
	May(rm(""))
	if again := ask(); again != first {
		t.Errorf("%s, and then %s", first, again)
	}
}

// R6: nil and empty lists are the same.
func TestNothing(t *testing.T) {
	for _, noFiles := range []api.Tree{nil, {}} {
		for _, old := range [][]string{nil, {}} {
			for _, now := range [][]string{nil, {}} {
				h := api.Hunk{Old: old, New: now}
				x := api.Tree{{Name: "a", Lines: old}}
				for _, p := range []api.Prim{add("a"), add("b"), rm("a"), move("a", "b"), patch("a", 0, "", ""), set("a", "", "")} {
					p = with(p, h)
					checkMay(t, p)
					checkTurn(t, p)
					checkApply(t, noFiles, p)
					checkApply(t, x, p)
					if !Same(p, with(p, api.Hunk{})) {
						t.Errorf("%#v is another one without lists", p)
					}
				}
			}
		}
	}
}

// P8.2: what comes of a tree that may be, and has room, may be.
func TestTreesStaySuchAsMayBe(t *testing.T) {
	for _, x := range all(2, words("a b"), nil, words("x"), words("x y")) {
		for _, p := range small(words("a b c"), nil, words("x"), words("x y")) {
			if got, e := Apply(x, p); e == api.OK && tree.May(x) && !tree.May(got) {
				t.Errorf("%v, %v: %v", x, p, got)
			}
		}
	}
}

// made is a tree of the words of s: each is a name, and behind each = a line.
func made(s string) api.Tree {
	var t api.Tree
	for _, word := range strings.Split(s, " ") {
		parts := strings.Split(word, "=")
		t = append(t, api.File{Name: parts[0], Lines: parts[1:]})
	}
	return t
}

func FuzzPrim(f *testing.F) {
	f.Add("a=x=y b", 0, "c", "", 0, "", "")
	f.Add("a=x=y b", 1, "b", "", 0, "", "")
	f.Add("a=x=y b", 2, "a", "c", 0, "", "")
	f.Add("a=x=y b", 3, "a", "", 1, "y", "z v")
	f.Add("a=x=y b", 4, "a", "", 0, "x y", "z")
	f.Add("b a b=x", -1, "A", "b", 1<<20+1, "\n", "")
	f.Fuzz(func(t *testing.T, s string, kind int, name, to string, at int, old, now string) {
		x := made(s)
		p := api.Prim{Kind: kind, Name: name, To: to, H: api.Hunk{At: at, Old: strings.Split(old, " "), New: strings.Split(now, " ")}}
		check := func(p api.Prim) {
			checkMay(t, p)
			checkTurn(t, p)
			checkApply(t, x, p)
			checkOwn(t, x, p)
			if !Same(p, markedPrim(p)) || Same(p, Turn(p)) != equal(p, toldTurn(p)) {
				t.Errorf("%v: same", p)
			}
		}
		check(p)
		// And some that are nearer to what may be, and to what is there.
		last := x[len(x)-1]
		for k := range 5 {
			near := api.Prim{Kind: k, Name: last.Name, To: to}
			check(near)
			near.To, near.H = "", p.H
			check(near)
			near.H.At, near.H.Old = 0, last.Lines
			check(near)
		}
	})
}
