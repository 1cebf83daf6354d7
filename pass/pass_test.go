package pass

import (
	"fmt"
	"math"
	"slices"
	"strings"
	"testing"

	"quiltmaker/api"
	"quiltmaker/prim"
	"quiltmaker/swap"
)

// words is a list of the words of s.
func words(s string) []string { return strings.Fields(s) }

// of is n bytes of s, one behind the other; many a list of n lines s.
func of(n int, s string) string { return strings.Repeat(s, n) }

func many(n int, s string) []string { return slices.Repeat([]string{s}, n) }

// file is a file with lines.
func file(name, lines string) api.File { return api.File{Name: name, Lines: words(lines)} }

func hunkOf(at int, old, now string) api.Hunk {
	return api.Hunk{At: at, Old: words(old), New: words(now)}
}

// long is a Patch of a that takes and leaves many lines.
func long(at, old, now int) api.Prim {
	return api.Prim{Kind: 3, Name: "a", H: api.Hunk{At: at, Old: many(old, "o"), New: many(now, "n")}}
}

// add, rm, move, patch and set are changes of each kind, as they may be.
func add(name string) api.Prim { return api.Prim{Kind: 0, Name: name} }

func rm(name string) api.Prim { return api.Prim{Kind: 1, Name: name} }

func move(name, to string) api.Prim { return api.Prim{Kind: 2, Name: name, To: to} }

func patch(name string, at int, old, now string) api.Prim {
	return api.Prim{Kind: 3, Name: name, H: hunkOf(at, old, now)}
}

func set(name, old, now string) api.Prim {
	return api.Prim{Kind: 4, Name: name, H: hunkOf(0, old, now)}
}

// to is p with another To, with is p with another H, at is p with another At.
func to(p api.Prim, name string) api.Prim {
	p.To = name
	return p
}

func with(p api.Prim, h api.Hunk) api.Prim {
	p.H = h
	return p
}

func at(p api.Prim, n int) api.Prim {
	p.H.At = n
	return p
}

// equal and equalTrees hold two against each other without a call of what is tested, or of what it stands on.
func equal(p, q api.Prim) bool {
	return p.Kind == q.Kind && p.Name == q.Name && p.To == q.To && p.H.At == q.H.At &&
		slices.Equal(p.H.Old, q.H.Old) && slices.Equal(p.H.New, q.H.New)
}

func equalTrees(a, b api.Tree) bool {
	return slices.EqualFunc(a, b, func(f, g api.File) bool { return f.Name == g.Name && slices.Equal(f.Lines, g.Lines) })
}

// noughts tells whether a change is the zero value: no list but one without lines.
func noughts(p api.Prim) bool { return equal(p, api.Prim{}) }

// mayName, mayLines and mayBe are what P1.1, P5.1 and P8.1 tell of a name, of lines and of a change.
func mayName(s string) bool {
	for k := range len(s) {
		if !strings.Contains("abcdefghijklmnopqrstuvwxyz0123456789.", s[k:k+1]) {
			return false
		}
	}
	return 1 <= len(s) && len(s) <= 16
}

func mayLines(l []string) bool {
	return len(l) <= 200 && !slices.ContainsFunc(l, func(s string) bool { return len(s) > 80 || strings.Contains(s, "\n") })
}

func mayBe(p api.Prim) bool {
	without := p.H.At == 0 && len(p.H.Old) == 0 && len(p.H.New) == 0
	fair := 0 <= p.H.At && p.H.At <= 1<<20 && mayLines(p.H.Old) && mayLines(p.H.New)
	switch p.Kind {
	case 0, 1:
		return mayName(p.Name) && p.To == "" && without
	case 2:
		return mayName(p.Name) && mayName(p.To) && p.To != p.Name && without
	case 3:
		return mayName(p.Name) && p.To == "" && fair
	case 4:
		return mayName(p.Name) && p.To == "" && fair && p.H.At == 0
	}
	return false
}

// toldHunks is what P6.1 tells of two hunks that may be: where they stand when they have passed.
func toldHunks(p, q api.Hunk) (atQ, atP int, ok bool) {
	atQ, atP = q.At, p.At
	if q.At > p.At+len(p.New) {
		atQ = q.At - len(p.New) + len(p.Old)
	} else if p.At > q.At+len(q.Old) {
		atP = p.At - len(q.Old) + len(q.New)
	} else {
		return 0, 0, false
	}
	return atQ, atP, atQ <= 1<<20 && atP <= 1<<20
}

// named are the files that a change names.
func named(p api.Prim) []string {
	if p.Kind == 2 {
		return []string{p.Name, p.To}
	}
	return []string{p.Name}
}

// told is what P9.1 tells, case by case.
func told(p, q api.Prim) (api.Prim, api.Prim, bool) {
	if !mayBe(p) || !mayBe(q) {
		return api.Prim{}, api.Prim{}, false
	}
	both := slices.DeleteFunc(named(p), func(s string) bool { return !slices.Contains(named(q), s) })
	if len(both) == 0 {
		return q, p, true
	}
	if p.Kind == 3 && q.Kind == 3 {
		if atQ, atP, ok := toldHunks(p.H, q.H); ok {
			return at(q, atQ), at(p, atP), true
		}
		return api.Prim{}, api.Prim{}, false
	}
	if p.Kind == 2 && q.Kind >= 3 && q.Name == p.To {
		q.Name = p.Name
		return q, p, true
	}
	if q.Kind == 2 && p.Kind >= 3 && p.Name == q.Name {
		p.Name = q.To
		return q, p, true
	}
	return api.Prim{}, api.Prim{}, false
}

// checkPass holds P9.1 as it is told, R4, and of P9.2 that the two pass back.
func checkPass(t *testing.T, p, q api.Prim) {
	t.Helper()
	first, second, ok := Pass(p, q)
	wantFirst, wantSecond, want := told(p, q)
	if ok != want || !equal(first, wantFirst) || !equal(second, wantSecond) {
		t.Errorf("%v, %v: %v, %v, %v, not %v, %v, %v", p, q, first, second, ok, wantFirst, wantSecond, want)
	}
	if !ok {
		return
	}
	if !mayBe(first) || !mayBe(second) {
		t.Errorf("%v, %v: %v and %v may not be", p, q, first, second)
	}
	if backP, backQ, ok := Pass(first, second); !ok || !equal(backP, p) || !equal(backQ, q) {
		t.Errorf("%v, %v: passed back %v, %v, %v", p, q, backP, backQ, ok)
	}
}

// both is what two changes make of a tree, one behind the other.
func both(x api.Tree, p, q api.Prim) (api.Tree, bool) {
	mid, e := prim.Apply(x, p)
	if e != api.OK {
		return nil, false
	}
	end, e := prim.Apply(mid, q)
	return end, e == api.OK
}

// checkSame holds P9.2: two that change a tree, one behind the other, do so to the same when they have passed. It tells whether they did.
func checkSame(t *testing.T, x api.Tree, p, q api.Prim) bool {
	t.Helper()
	first, second, ok := Pass(p, q)
	if !ok {
		return false
	}
	want, fits := both(x, p, q)
	got, fit := both(x, first, second)
	if fit != fits || !equalTrees(got, want) {
		t.Errorf("%v, %v, %v: %v, %v; passed, by %v, %v: %v, %v", x, p, q, want, fits, first, second, got, fit)
	}
	return fits
}

// P9.1: the chapter's example, which is one of the whole, and ordinary changes that pass.
func TestPass(t *testing.T) {
	for _, x := range []struct{ p, q, first, second api.Prim }{
		// The chapter's example.
		{move("a", "b"), patch("b", 0, "", "x"), patch("a", 0, "", "x"), move("a", "b")},
		{move("a", "b"), patch("b", 3, "x y", "z"), patch("a", 3, "x y", "z"), move("a", "b")},
		{move("a", "b"), patch("b", 0, "", ""), patch("a", 0, "", ""), move("a", "b")},
		{move("a", "b"), patch("b", 1<<20, "x", "x"), patch("a", 1<<20, "x", "x"), move("a", "b")},
		// A Move, and then a Set of its To.
		{move("a", "b"), set("b", "", "x"), set("a", "", "x"), move("a", "b")},
		{move("c", "a"), set("a", "x y", "z"), set("c", "x y", "z"), move("c", "a")},
		{move("a", "b"), set("b", "", ""), set("a", "", ""), move("a", "b")},
		// A Patch, or a Set, and then a Move of its Name.
		{patch("a", 0, "", "x"), move("a", "b"), move("a", "b"), patch("b", 0, "", "x")},
		{patch("b", 3, "x y", "z"), move("b", "a"), move("b", "a"), patch("a", 3, "x y", "z")},
		{patch("a", 1<<20, "x", "x"), move("a", "b"), move("a", "b"), patch("b", 1<<20, "x", "x")},
		{set("a", "", "x"), move("a", "b"), move("a", "b"), set("b", "", "x")},
		{set("c", "x y", "z"), move("c", "b"), move("c", "b"), set("b", "x y", "z")},
		// Two Patches of one Name, of which the second one lies behind, or ahead.
		{patch("a", 0, "", "x"), patch("a", 5, "b", ""), patch("a", 4, "b", ""), patch("a", 0, "", "x")},
		{patch("a", 1, "b c", ""), patch("a", 3, "d", "z"), patch("a", 5, "d", "z"), patch("a", 1, "b c", "")},
		{patch("a", 1, "b", "x"), patch("a", 5, "c", "y"), patch("a", 5, "c", "y"), patch("a", 1, "b", "x")},
		{patch("a", 5, "b", ""), patch("a", 0, "", "x"), patch("a", 0, "", "x"), patch("a", 6, "b", "")},
		{patch("a", 5, "d", "z"), patch("a", 1, "b c", ""), patch("a", 1, "b c", ""), patch("a", 3, "d", "z")},
		// No file that both name.
		{patch("a", 0, "", "x"), patch("b", 0, "", "y"), patch("b", 0, "", "y"), patch("a", 0, "", "x")},
		{add("a"), patch("b", 0, "", "x"), patch("b", 0, "", "x"), add("a")},
		{move("a", "b"), move("c", "d"), move("c", "d"), move("a", "b")},
		// Names at the limit, of which one is the beginning of another one.
		{move(of(16, "a"), of(15, "a")), patch(of(15, "a"), 0, "", "x"), patch(of(16, "a"), 0, "", "x"), move(of(16, "a"), of(15, "a"))},
		{set(of(15, "a"), "", "x"), move(of(15, "a"), of(16, "a")), move(of(15, "a"), of(16, "a")), set(of(16, "a"), "", "x")},
		{add("aa"), rm("a"), rm("a"), add("aa")},
		{move("a", "aaa"), set("aa", "x", ""), set("aa", "x", ""), move("a", "aaa")},
	} {
		first, second, ok := Pass(x.p, x.q)
		if !ok || !equal(first, x.first) || !equal(second, x.second) {
			t.Errorf("%v, %v: %v, %v, %v", x.p, x.q, first, second, ok)
		}
		checkPass(t, x.p, x.q)
	}
}

// P9.1, R4: changes that name one file, and don't pass.
func TestPassWhatHangs(t *testing.T) {
	for _, x := range []struct{ p, q api.Prim }{
		// An Add, or a Rm, with each kind of the same file, ahead and behind.
		{add("a"), add("a")},
		{add("a"), rm("a")},
		{add("a"), move("a", "b")},
		{add("a"), move("b", "a")},
		{add("a"), patch("a", 0, "", "x")},
		{add("a"), set("a", "", "x")},
		{rm("a"), add("a")},
		{rm("a"), rm("a")},
		{rm("a"), move("a", "b")},
		{rm("a"), move("b", "a")},
		{rm("a"), patch("a", 0, "", "x")},
		{rm("a"), set("a", "", "x")},
		{move("a", "b"), add("a")},
		{move("b", "a"), add("a")},
		{patch("a", 0, "x", ""), add("a")},
		{set("a", "x", ""), add("a")},
		{move("a", "b"), rm("a")},
		{move("b", "a"), rm("a")},
		{patch("a", 0, "x", ""), rm("a")},
		{set("a", "x", ""), rm("a")},
		// A Move, and then what changes lines of its Name.
		{move("a", "b"), patch("a", 0, "", "x")},
		{move("a", "b"), patch("a", 7, "x", "x")},
		{move("a", "b"), set("a", "", "x")},
		// What changes lines, and then a Move whose To that is.
		{patch("a", 0, "", "x"), move("b", "a")},
		{patch("a", 7, "x", "x"), move("b", "a")},
		{set("a", "", "x"), move("b", "a")},
		// Two Moves that name one file, or two.
		{move("a", "b"), move("b", "c")},
		{move("a", "b"), move("c", "a")},
		{move("a", "b"), move("a", "c")},
		{move("a", "b"), move("c", "b")},
		{move("a", "b"), move("b", "a")},
		{move("a", "b"), move("a", "b")},
		// A Set and a Patch, and two Sets, even if idle, or far apart.
		{set("a", "", "x"), patch("a", 5, "", "y")},
		{set("a", "x", "x"), patch("a", 5, "y", "y")},
		{set("a", "", ""), patch("a", 5, "", "")},
		{patch("a", 5, "", "x"), set("a", "", "y")},
		{patch("a", 5, "", ""), set("a", "", "")},
		{set("a", "x", "y"), set("a", "y", "z")},
		{set("a", "", ""), set("a", "", "")},
		// Two Patches whose hunks touch, or lie in one another.
		{patch("a", 0, "", "x"), patch("a", 1, "", "y")},
		{patch("a", 3, "", "x"), patch("a", 3, "", "y")},
		{patch("a", 3, "", ""), patch("a", 3, "", "")},
		{patch("a", 3, "b", "x y"), patch("a", 5, "c", "z")},
		{patch("a", 3, "b", "x y"), patch("a", 4, "y", "z")},
		{patch("a", 5, "b", "x"), patch("a", 3, "c d", "y")},
		{patch("a", 5, "b", "x"), patch("a", 4, "c x", "y")},
	} {
		first, second, ok := Pass(x.p, x.q)
		if ok || !noughts(first) || !noughts(second) {
			t.Errorf("%v, %v: %v, %v, %v", x.p, x.q, first, second, ok)
		}
		checkPass(t, x.p, x.q)
	}
}

// ofEach are changes of each kind that may be: of name, and a Move to other.
func ofEach(name, other string) []api.Prim {
	return []api.Prim{add(name), rm(name), move(name, other), patch(name, 2, "x", "y z"), set(name, "x", "y z")}
}

// P9.1: each pair of kinds, with the files that they name in each way: which pairs pass, kind by kind (ahead down, behind across: Add, Rm, Move, Patch, Set).
func TestPassEachPairOfKinds(t *testing.T) {
	for _, x := range []struct {
		what                string
		pName, pTo          string
		qName, qTo          string
		add, rm, mv, pt, st string
	}{
		{"none", "a", "b", "c", "d", "11111", "11111", "11111", "11111", "11111"},
		{"one Name", "a", "b", "a", "c", "00000", "00000", "00000", "00100", "00100"},
		{"q's Name is p's To", "a", "b", "b", "c", "11111", "11111", "00011", "11111", "11111"},
		{"p's Name is q's To", "a", "b", "c", "a", "11011", "11011", "11011", "11011", "11011"},
		{"one To", "a", "b", "c", "b", "11111", "11111", "11011", "11111", "11111"},
		{"there and back", "a", "b", "b", "a", "11011", "11011", "00011", "11011", "11011"},
		{"one Name and one To", "a", "b", "a", "b", "00000", "00000", "00000", "00100", "00100"},
	} {
		for i, row := range []string{x.add, x.rm, x.mv, x.pt, x.st} {
			for j := range row {
				p, q := ofEach(x.pName, x.pTo)[i], ofEach(x.qName, x.qTo)[j]
				if _, _, ok := Pass(p, q); ok != (row[j] == '1') {
					t.Errorf("%s: %v, %v: %v", x.what, p, q, ok)
				}
				checkPass(t, p, q)
			}
		}
	}
}

// P9.1, R4: two Patches of one Name, whose At would be just 2^20, or above.
func TestPassFarPatches(t *testing.T) {
	const end = 1 << 20
	for _, x := range []struct {
		p, q     api.Prim
		atQ, atP int // less than 0: they don't pass
	}{
		// The second one would stand there.
		{long(0, 1, 0), long(end-1, 0, 0), end, 0},
		{long(0, 1, 0), long(end, 0, 0), -1, -1},
		{long(0, 200, 0), long(end-200, 1, 1), end, 0},
		{long(0, 200, 0), long(end-199, 1, 1), -1, -1},
		{long(0, 200, 200), long(end, 0, 200), end, 0},
		{long(0, 0, 1), long(end, 0, 1), end - 1, 0},
		// The first one would.
		{long(end-1, 1, 0), long(0, 0, 1), 0, end},
		{long(end, 1, 0), long(0, 0, 1), -1, -1},
		{long(end-200, 1, 1), long(0, 0, 200), 0, end},
		{long(end-199, 1, 1), long(0, 0, 200), -1, -1},
		{long(end, 200, 0), long(0, 200, 200), 0, end},
		{long(end, 0, 1), long(0, 1, 0), 0, end - 1},
		// Both stand at the end, or nearly.
		{long(end, 0, 0), long(end, 0, 0), -1, -1},
		{long(end-1, 0, 0), long(end, 0, 0), end, end - 1},
		{long(end, 0, 0), long(end-1, 0, 0), end - 1, end},
		{long(end, 0, 0), long(end-1, 0, 1), -1, -1},
	} {
		first, second, ok := Pass(x.p, x.q)
		want := x.atQ >= 0
		wantFirst, wantSecond := at(x.q, x.atQ), at(x.p, x.atP)
		if !want {
			wantFirst, wantSecond = api.Prim{}, api.Prim{}
		}
		if ok != want || !equal(first, wantFirst) || !equal(second, wantSecond) {
			t.Errorf("%d -%d +%d, %d -%d +%d: at %d and %d, %v", x.p.H.At, len(x.p.H.Old), len(x.p.H.New), x.q.H.At, len(x.q.H.Old), len(x.q.H.New), first.H.At, second.H.At, ok)
		}
		checkPass(t, x.p, x.q)
		// Of two files they all pass, and stay as they are.
		x.q.Name = "b"
		if first, second, ok := Pass(x.p, x.q); !ok || !equal(first, x.q) || !equal(second, x.p) {
			t.Errorf("of two files: at %d and %d: at %d and %d, %v", x.p.H.At, x.q.H.At, first.H.At, second.H.At, ok)
		}
	}
}

// P9.1: two Patches of one Name pass as their hunks do.
func TestPassAsHunksDo(t *testing.T) {
	lists := [][]string{nil, words("x"), words("y"), words("x y"), many(200, "x")}
	var hunks []api.Hunk
	for _, place := range []int{0, 1, 2, 3, 4, 200, 201, 202, 1<<20 - 200, 1<<20 - 1, 1 << 20} {
		for _, old := range lists {
			for _, now := range lists {
				hunks = append(hunks, api.Hunk{At: place, Old: old, New: now})
			}
		}
	}
	p := patch("a.1", 0, "", "")
	for _, g := range hunks {
		for _, h := range hunks {
			first, second, ok := Pass(with(p, g), with(p, h))
			q, r, want := swap.Pass(g, h)
			wantFirst, wantSecond := with(p, q), with(p, r)
			if !want {
				wantFirst, wantSecond = api.Prim{}, api.Prim{}
			}
			if ok != want || !equal(first, wantFirst) || !equal(second, wantSecond) {
				t.Fatalf("%v, %v: %v, %v, %v", g, h, first, second, ok)
			}
		}
	}
}

// wrong are changes that may not be, of a, b and c: each for one thing alone, or for more.
func wrong() []api.Prim {
	return []api.Prim{
		{}, {Kind: -1, Name: "a"}, {Kind: 5, Name: "a"}, {Kind: -1, Name: "a", To: "b"}, {Kind: 5, Name: "a", H: hunkOf(0, "x", "y")},
		{Kind: math.MinInt, Name: "a"}, {Kind: math.MaxInt, Name: "a"}, {Kind: 3 + 1<<32, Name: "a", H: hunkOf(0, "", "x")}, {Kind: 7},
		add(""), add("A"), add("a b"), add(of(17, "a")), to(add("a"), "b"), with(add("a"), hunkOf(0, "", "x")), at(add("a"), 1),
		rm(""), rm("a\n"), to(rm("a"), "b"), to(rm("a"), "a"), with(rm("a"), hunkOf(0, "x", "")), at(rm("a"), -1),
		move("a", ""), move("a", "a"), move("", "b"), move("", ""), move("a", "B"), move("A", "b"), move("a", of(17, "b")), move("é", "b"),
		with(move("a", "b"), hunkOf(0, "x", "")), with(move("a", "b"), hunkOf(0, "", "x")), at(move("a", "b"), 1), at(move("b", "a"), -1),
		patch("", 0, "", "x"), patch("A", 0, "", "x"), to(patch("a", 0, "", "x"), "b"), to(patch("a", 0, "", "x"), "a"),
		patch("a", -1, "", "x"), patch("a", 1<<20+1, "", "x"), patch("a", math.MinInt, "x", ""), patch("a", math.MaxInt, "x", "y z"),
		with(patch("a", 0, "", ""), api.Hunk{Old: []string{"\n"}}), with(patch("a", 0, "", ""), api.Hunk{New: []string{of(81, "x")}}),
		with(patch("b", 0, "", ""), api.Hunk{At: 5, Old: many(201, "x")}), with(patch("b", 0, "", ""), api.Hunk{At: 5, New: many(201, "x")}),
		set("", "", "x"), set("a/b", "", "x"), to(set("a", "", "x"), "b"), to(set("b", "", "x"), "a"), at(set("a", "", "x"), 1), at(set("b", "x", "y"), -1),
		with(set("a", "", ""), api.Hunk{Old: []string{"a\nb"}}), with(set("b", "", ""), api.Hunk{New: many(201, "x")}),
		with(set("b", "", ""), api.Hunk{Old: []string{of(81, "x")}, New: []string{of(81, "x")}}),
	}
}

// fair are changes of each kind that may be, of some names.
func fair() []api.Prim {
	var l []api.Prim
	for _, name := range words("a b c z") {
		for _, other := range words("a b y") {
			if other != name {
				l = append(l, ofEach(name, other)...)
			}
		}
	}
	return append(l, patch("a", 0, "", ""), patch("b", 700, "x", ""), patch("b", 1<<20, "", ""), set("a", "", ""))
}

// P9.1, R1, R4: a change that may not be, as the first one, as the second one, as both, whether they name a file both or not.
func TestPassWhatMayNotBe(t *testing.T) {
	bad := wrong()
	for _, p := range bad {
		if mayBe(p) {
			t.Errorf("%v may be", p)
		}
		for _, q := range append(fair(), bad...) {
			for _, x := range [][2]api.Prim{{p, q}, {q, p}} {
				if first, second, ok := Pass(x[0], x[1]); ok || !noughts(first) || !noughts(second) {
					t.Errorf("%v, %v: %v, %v, %v", x[0], x[1], first, second, ok)
				}
				checkPass(t, x[0], x[1])
			}
		}
	}
	for _, p := range fair() {
		if !mayBe(p) {
			t.Errorf("%v may not be", p)
		}
		// It passes where no file is named by both, so that above it is the other one for which they don't.
		if first, second, ok := Pass(p, add("other")); !ok || !equal(first, add("other")) || !equal(second, p) {
			t.Errorf("%v, and then another file is added: %v, %v, %v", p, first, second, ok)
		}
	}
}

// P9.1: such as just may be, in the place of those that just may not.
func TestPassWhatJustMayBe(t *testing.T) {
	for _, h := range []api.Hunk{
		{Old: []string{of(80, "x")}, New: []string{of(40, "é")}}, {Old: many(200, ""), New: many(200, "\r")}, {Old: []string{""}}, {New: []string{"\x00\xff"}},
	} {
		for _, p := range []api.Prim{with(patch("a", 0, "", ""), h), at(with(patch("a", 0, "", ""), h), 1<<20), with(set("a", "", ""), h)} {
			there := p
			there.Name = of(16, "b")
			for _, x := range []struct{ p, q, first, second api.Prim }{
				{p, move("a", there.Name), move("a", there.Name), there},
				{move(there.Name, "a"), p, there, move(there.Name, "a")},
				{p, there, there, p},
				{rm("."), p, p, rm(".")},
			} {
				if first, second, ok := Pass(x.p, x.q); !ok || !equal(first, x.first) || !equal(second, x.second) {
					t.Errorf("%v, %v: %v, %v, %v", x.p, x.q, first, second, ok)
				}
				checkPass(t, x.p, x.q)
			}
		}
	}
}

// small are all changes of some names, and of short lists of lines, at places that may be and not.
func small(names []string, lists ...[]string) []api.Prim {
	var l []api.Prim
	for _, name := range names {
		l = append(l, add(name), rm(name))
		for _, to := range names {
			l = append(l, move(name, to))
		}
		for _, old := range lists {
			for _, now := range lists {
				l = append(l, with(set(name, "", ""), api.Hunk{Old: old, New: now}))
				for place := -1; place <= 4; place++ {
					l = append(l, with(patch(name, 0, "", ""), api.Hunk{At: place, Old: old, New: now}))
				}
			}
		}
	}
	return l
}

// P9.1, P9.2: all pairs of small changes, whether they may be or not.
func TestPassAllSmall(t *testing.T) {
	changes := small([]string{"a", "b", "c", "A"}, nil, words("x"), words("y"), words("x y"))
	for _, p := range changes {
		for _, q := range changes {
			checkPass(t, p, q)
		}
	}
}

// trees are all trees of some of the files, with the lists of lines.
func trees(names []string, lists ...[]string) []api.Tree {
	out := []api.Tree{nil}
	for _, name := range names {
		for _, x := range slices.Clone(out) {
			for _, l := range lists {
				out = append(out, append(slices.Clone(x), api.File{Name: name, Lines: slices.Clone(l)}))
			}
		}
	}
	return out
}

// P9.2, P3: all pairs of small changes that change a small tree.
func TestSameOnAllSmallTrees(t *testing.T) {
	changes := small(words("a b c d"), nil, words("x"), words("y"), words("x y"))
	passed, kinds := 0, map[[2]int]int{}
	for _, x := range trees(words("a b c"), nil, words("x"), words("x y"), words("x y x y")) {
		for _, p := range changes {
			mid, e := prim.Apply(x, p)
			if e != api.OK {
				continue
			}
			for _, q := range changes {
				if _, e := prim.Apply(mid, q); e == api.OK && checkSame(t, x, p, q) {
					passed++
					kinds[[2]int{p.Kind, q.Kind}]++
				}
			}
		}
	}
	if passed < 10000 || len(kinds) != 25 {
		t.Errorf("only %d pass, of %d pairs of kinds", passed, len(kinds))
	}
}

// P9.2, P3: what does not change a tree, one behind the other, does not do so passed.
func TestSameWhereTheyDoNotFit(t *testing.T) {
	changes := small(words("a b c"), nil, words("x"), words("x y"))
	all := []api.Tree{nil, {file("a", "")}, {file("a", "x y")}, {file("a", ""), file("b", "x")}, {file("b", "x"), file("c", "x y x")}, {file("a", "y"), file("b", "x x"), file("c", "")}}
	for _, p := range changes {
		for _, q := range changes {
			for _, x := range all {
				checkSame(t, x, p, q)
			}
		}
	}
}

// P9.2: a tree that is full, and stays so, or is more than full on its way.
func TestSameOfAFullTree(t *testing.T) {
	var x api.Tree
	for k := range 30 {
		x = append(x, api.File{Name: fmt.Sprintf("f%02d", k), Lines: many(200, "x")})
	}
	x[7].Lines = nil
	lines := func(name string, at int, old, now []string) api.Prim {
		return with(patch(name, 0, "", ""), api.Hunk{At: at, Old: old, New: now})
	}
	for _, y := range []struct{ p, q api.Prim }{
		{add("a"), rm("f07")},
		{rm("f07"), add("z")},
		{move("f03", "z"), move("f20", "a")},
		{move("f03", "z"), lines("z", 200, nil, many(200, "y"))},
		{lines("f03", 0, many(200, "x"), many(200, "y")), move("f03", "a")},
		{with(set("f03", "", ""), api.Hunk{Old: many(200, "x"), New: many(200, "y")}), move("f03", "z")},
		{move("f03", "a"), with(set("a", "", ""), api.Hunk{Old: many(200, "x")})},
		{lines("f03", 0, nil, many(200, "y")), lines("f03", 300, many(100, "x"), nil)},
		{lines("f03", 101, many(99, "x"), nil), lines("f03", 0, many(100, "x"), many(200, "y"))},
	} {
		if !checkSame(t, x, y.p, y.q) {
			t.Errorf("%v, %v: don't pass, or don't fit", y.p, y.q)
		}
		checkPass(t, y.p, y.q)
	}
}

// P9.2: changes of a whole story, of which each goes ahead as far as it passes: all of them make the same at each step.
func TestPassThroughAStory(t *testing.T) {
	story := []api.Prim{
		add("b"), patch("b", 0, "", "x y z v w"), add("a"), patch("b", 1, "y", ""), move("b", "c"), patch("c", 3, "w", "w u"),
		set("a", "", "s t"), move("a", "b"), add("e"), patch("c", 0, "", "o p"), set("b", "s t", "r"), move("c", "d"), patch("b", 1, "", "q"), rm("e"),
	}
	apply := func(l []api.Prim) api.Tree {
		var x api.Tree
		for k, p := range l {
			next, e := prim.Apply(x, p)
			if e != api.OK {
				t.Fatalf("%v: change %d: error %d", l, k, e)
			}
			x = next
		}
		return x
	}
	want := apply(story)
	if !equalTrees(want, api.Tree{file("b", "r q"), file("d", "o p x z v w u")}) {
		t.Fatalf("the story makes %v", want)
	}
	passed := 0
	for k := range story {
		l := slices.Clone(story)
		for n := k; n > 0; n-- {
			checkPass(t, l[n-1], l[n])
			first, second, ok := Pass(l[n-1], l[n])
			if !ok {
				break
			}
			l[n-1], l[n] = first, second
			passed++
			if got := apply(l); !equalTrees(got, want) {
				t.Errorf("change %d, gone ahead to %d: %v, not %v", k, n-1, got, want)
			}
		}
	}
	if passed < 20 {
		t.Errorf("only %d times two passed", passed)
	}
}

// marked is l with room behind it, in which a write is seen; markedPrim is a change with such lines.
func marked(l []string) []string {
	return append(slices.Clone(l), "mark", "mark")[:len(l)]
}

func markedPrim(p api.Prim) api.Prim {
	return with(p, api.Hunk{At: p.H.At, Old: marked(p.H.Old), New: marked(p.H.New)})
}

// unmarked tells whether a list is still as marked made it of was; unmarkedPrim the same of a change.
func unmarked(l, was []string) bool {
	return slices.Equal(l[:len(was)+2], append(slices.Clone(was), "mark", "mark"))
}

func unmarkedPrim(p, was api.Prim) bool {
	return equal(p, was) && unmarked(p.H.Old, was.H.Old) && unmarked(p.H.New, was.H.New)
}

// spoil writes over a list, and over the room behind it; spoilPrim over a hunk's.
func spoil(l []string) {
	l = l[:cap(l)]
	for k := range l {
		l[k] = "spoilt"
	}
}

func spoilPrim(p api.Prim) {
	spoil(p.H.Old)
	spoil(p.H.New)
}

// checkOwn holds R3: what is handed in stays, its room too, and what is answered shares nothing with that, nor within itself.
func checkOwn(t *testing.T, p, q api.Prim) {
	t.Helper()
	inP, inQ := markedPrim(p), markedPrim(q)
	stays := func(what string) {
		t.Helper()
		if !unmarkedPrim(inP, p) || !unmarkedPrim(inQ, q) {
			t.Fatalf("%v, %v: what was handed in is now %v, %v: %s", p, q, inP, inQ, what)
		}
	}
	first, second, ok := Pass(inP, inQ)
	stays("changed")
	if !ok {
		return
	}
	wantFirst, wantSecond, _ := told(p, q)
	lists := [][]string{first.H.Old, first.H.New, second.H.Old, second.H.New}
	was := [][]string{wantFirst.H.Old, wantFirst.H.New, wantSecond.H.Old, wantSecond.H.New}
	for k, l := range lists {
		spoil(l)
		for n := k + 1; n < len(lists); n++ {
			if !slices.Equal(lists[n], was[n]) {
				t.Errorf("%v, %v: lists %d and %d of what is answered are shared", p, q, k, n)
			}
		}
	}
	stays("shared with what is answered")
	first, second, _ = Pass(inP, inQ)
	spoilPrim(inP)
	spoilPrim(inQ)
	if !equal(first, wantFirst) || !equal(second, wantSecond) {
		t.Errorf("%v, %v: what was answered is then %v, %v", p, q, first, second)
	}
}

// R3: all pairs of small changes, and such as may not be.
func TestNothingIsShared(t *testing.T) {
	changes := small(words("a b"), nil, []string{}, words("x"), words("x y"))
	changes = append(changes, wrong()...)
	changes = append(changes, fair()...)
	changes = append(changes, long(0, 200, 199), long(300, 199, 200), long(1<<20, 1, 1))
	for _, p := range changes {
		for _, q := range changes {
			checkOwn(t, p, q)
		}
	}
}

// R3: one list as all four, and lists that overlap, in each case in which two pass.
func TestOneListManyTimes(t *testing.T) {
	was := words("x y x y")
	l := marked(was)
	hunks := []api.Hunk{{Old: l, New: l}, {Old: l[:2], New: l[2:]}, {Old: l[:0], New: l}, {Old: l, New: l[4:]}, {Old: l[1:3], New: l[1:2]}, {Old: l[:0], New: l[:0]}}
	check := func(p, q api.Prim) {
		checkPass(t, p, q)
		first, second, ok := Pass(p, q)
		if !ok {
			t.Fatalf("%v, %v: don't pass", p, q)
		}
		lists := [][]string{first.H.Old, first.H.New, second.H.Old, second.H.New}
		wants := [][]string{q.H.Old, q.H.New, p.H.Old, p.H.New}
		for k := range lists {
			spoil(lists[k])
			for n := k + 1; n < len(lists); n++ {
				if !slices.Equal(lists[n], wants[n]) {
					t.Errorf("%v, %v: lists %d and %d of what is answered are one", p, q, k, n)
				}
			}
			if !unmarked(l, was) {
				t.Fatalf("%v, %v: %q", p, q, l)
			}
		}
	}
	for _, g := range hunks {
		for _, h := range hunks {
			p, q := with(patch("a", 0, "", ""), g), with(patch("a", 0, "", ""), h)
			check(p, at(q, 9))
			check(at(p, 9), q)
			q.Name = "b"
			check(p, q)
			check(with(set("b", "", ""), g), with(set("a", "", ""), h))
		}
		check(with(patch("a", 0, "", ""), g), move("a", "b"))
		check(move("b", "a"), with(set("a", "", ""), g))
	}
	// Lists without lines that are a piece of one with lines.
	for _, p := range []api.Prim{add("a"), rm("a"), move("a", "c")} {
		check(with(p, api.Hunk{Old: l[:0], New: l[4:]}), with(set("b", "", ""), api.Hunk{Old: l[:0], New: l}))
	}
}

// R5: what is asked does not hang on what was asked ahead of it.
func TestAskedOnceMore(t *testing.T) {
	ask := func() string {
		return fmt.Sprint(Pass(move("a", "b"), patch("b", 1, "x", "y z"))) + fmt.Sprint(Pass(set("a", "x", ""), move("a", "b"))) + fmt.Sprint(Pass(add("a"), rm("a")))
	}
	first := ask()
	if want := "{3 a  {1 [x] [y z]}} {2 a b {0 [] []}} true{2 a b {0 [] []}} {4 b  {0 [x] []}} true{0   {0 [] []}} {0   {0 [] []}} false"; first != want {
		t.Errorf("%s, not %s", first, want)
	}
	Pass(patch("a", 0, "", "x"), patch("a", 5, "b", ""))
	Pass(add("a"), add("b"))
	Pass(api.Prim{Kind: 9}, move("", "c"))
	if again := ask(); again != first {
		t.Errorf("%s, and then %s", first, again)
	}
}

// R6: nil and empty lists are the same.
func TestNothing(t *testing.T) {
	for _, g := range []api.Hunk{{}, {Old: []string{}}, {New: []string{}}, {Old: []string{}, New: []string{}}} {
		for _, h := range []api.Hunk{{}, {Old: []string{}}, {New: []string{}}, {Old: []string{}, New: []string{}}} {
			for _, p := range append(ofEach("a", "b"), patch("a", 2, "", "")) {
				for _, q := range append(ofEach("b", "c"), move("a", "d"), patch("a", 0, "", ""), add("a")) {
					g.At, h.At = p.H.At, q.H.At
					checkPass(t, with(p, g), with(q, h))
				}
			}
		}
	}
}

// made is a tree of the words of s, in rising order, each name once: each is a name, and behind each = a line.
func made(s string) api.Tree {
	var x api.Tree
	for _, word := range words(s) {
		parts := strings.Split(word, "=")
		x = append(x, api.File{Name: parts[0], Lines: parts[1:]})
	}
	slices.SortStableFunc(x, func(f, g api.File) int { return strings.Compare(f.Name, g.Name) })
	return slices.CompactFunc(x, func(f, g api.File) bool { return f.Name == g.Name })
}

func FuzzPass(f *testing.F) {
	f.Add("a=x=y b", 2, "a", "c", 0, "", "", 3, "c", "", 1, "y", "z v")
	f.Add("a=x=y b", 4, "a", "", 0, "x y", "", 2, "a", "c", 0, "", "")
	f.Add("a=x=y=z=v", 3, "a", "", 0, "", "w", 3, "a", "", 4, "v", "")
	f.Add("a=x=y=z=v", 3, "a", "", 3, "v", "", 3, "a", "", 0, "x", "w u")
	f.Add("a", 1, "a", "", 0, "", "", 0, "a", "", 0, "", "")
	f.Add("b a", -1, "A", "b", 1<<20+1, "\n", "", 2, "a", "a", math.MaxInt, "", "")
	f.Fuzz(func(t *testing.T, s string, kindP int, nameP, toP string, atP int, oldP, newP string, kindQ int, nameQ, toQ string, atQ int, oldQ, newQ string) {
		x := made(s)
		p := api.Prim{Kind: kindP, Name: nameP, To: toP, H: api.Hunk{At: atP, Old: words(oldP), New: strings.Split(newP, " ")}}
		q := api.Prim{Kind: kindQ, Name: nameQ, To: toQ, H: api.Hunk{At: atQ, Old: strings.Split(oldQ, " "), New: words(newQ)}}
		check := func(p, q api.Prim) {
			checkPass(t, p, q)
			checkOwn(t, p, q)
			checkSame(t, x, p, q)
		}
		check(p, q)
		check(q, p)
		// And some that are nearer to what may be, and to one another.
		near := func(p api.Prim, name, other string) []api.Prim {
			lines := with(patch(name, 0, "", ""), p.H)
			return []api.Prim{add(name), rm(name), move(name, other), lines, at(lines, max(0, p.H.At%8)), at(with(set(name, "", ""), p.H), 0)}
		}
		for _, p := range append(near(p, nameP, nameQ), near(p, nameP, toP)...) {
			for _, q := range append(near(q, nameP, nameQ), near(q, nameQ, toQ)...) {
				check(p, q)
			}
		}
	})
}
