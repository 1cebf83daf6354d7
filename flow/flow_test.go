package flow

import (
	"fmt"
	"math"
	"math/rand/v2"
	"slices"
	"strings"
	"testing"

	"quiltmaker/api"
	"quiltmaker/pass"
	"quiltmaker/prim"
)

// words is a list of the words of s.
func words(s string) []string { return strings.Fields(s) }

// of is n bytes of s, one behind the other; many a list of n lines s.
func of(n int, s string) string { return strings.Repeat(s, n) }

func many(n int, s string) []string { return slices.Repeat([]string{s}, n) }

// numbered are n lines, no two of which are the same.
func numbered(n int) []string {
	var l []string
	for k := range n {
		l = append(l, fmt.Sprint("l", k))
	}
	return l
}

// file is a file with lines.
func file(name, lines string) api.File { return api.File{Name: name, Lines: words(lines)} }

func hunkOf(at int, old, now string) api.Hunk {
	return api.Hunk{At: at, Old: words(old), New: words(now)}
}

// add, rm, move, patch and set are changes of each kind, as they may be.
func add(name string) api.Prim { return api.Prim{Kind: 0, Name: name} }

func rm(name string) api.Prim { return api.Prim{Kind: 1, Name: name} }

func move(name, to string) api.Prim { return api.Prim{Kind: 2, Name: name, To: to} }

func patch(name string, at int, old, now string) api.Prim {
	return api.Prim{Kind: 3, Name: name, H: hunkOf(at, old, now)}
}

func set(name, old, now string) api.Prim {
	return api.Prim{Kind: 4, Name: name, H: hunkOf(0, old, now)}
}

// to is p with another To, with is p with another H, at is p with another At.
func to(p api.Prim, name string) api.Prim {
	p.To = name
	return p
}

func with(p api.Prim, h api.Hunk) api.Prim {
	p.H = h
	return p
}

func at(p api.Prim, n int) api.Prim {
	p.H.At = n
	return p
}

// list is a list of changes.
func list(l ...api.Prim) []api.Prim { return l }

// equal, equalLists and equalTrees hold two against each other without a call of what is tested, or of what it stands on.
func equal(p, q api.Prim) bool {
	return p.Kind == q.Kind && p.Name == q.Name && p.To == q.To && p.H.At == q.H.At &&
		slices.Equal(p.H.Old, q.H.Old) && slices.Equal(p.H.New, q.H.New)
}

func equalLists(a, b []api.Prim) bool { return slices.EqualFunc(a, b, equal) }

func equalTrees(a, b api.Tree) bool {
	return slices.EqualFunc(a, b, func(f, g api.File) bool { return f.Name == g.Name && slices.Equal(f.Lines, g.Lines) })
}

// toldApply is what P10.1 tells of Apply: it does the first one, and then the others.
func toldApply(x api.Tree, l []api.Prim) (api.Tree, api.Errno) {
	if len(l) == 0 {
		return x, 0
	}
	y, e := prim.Apply(x, l[0])
	if e != 0 {
		return nil, e
	}
	return toldApply(y, l[1:])
}

// toldTurn is what P10.1 tells of Turn: the others, turned, and then the first one.
func toldTurn(l []api.Prim) []api.Prim {
	if len(l) == 0 {
		return nil
	}
	return append(toldTurn(l[1:]), prim.Turn(l[0]))
}

// toldPass is what P10.2 tells: in the joint of both each of b goes ahead, place by place, till all of a are behind it.
func toldPass(a, b []api.Prim) ([]api.Prim, []api.Prim, bool) {
	joint := slices.Concat(a, b)
	for k := range b {
		for n := len(a) + k; n > k; n-- {
			q, p, ok := pass.Pass(joint[n-1], joint[n])
			if !ok {
				return nil, nil, false
			}
			joint[n-1], joint[n] = q, p
		}
	}
	return joint[:len(b)], joint[len(b):], true
}

// rises is whether the names of a tree do, none twice.
func rises(x api.Tree) bool {
	for k := range x {
		if k > 0 && x[k-1].Name >= x[k].Name {
			return false
		}
	}
	return true
}

// checkApply holds P10.1 of Apply, R4, and, of a tree whose names rise, that what changes it changes it back, turned.
func checkApply(t *testing.T, x api.Tree, l []api.Prim) {
	t.Helper()
	got, e := Apply(x, l)
	want, we := toldApply(x, l)
	if e != we || !equalTrees(got, want) {
		t.Errorf("%v, %v: %v, error %d, not %v, error %d", x, l, got, e, want, we)
	}
	if e != api.OK || !rises(x) {
		return
	}
	if back, e := Apply(got, Turn(l)); e != api.OK || !equalTrees(back, x) {
		t.Errorf("%v, %v: changed back %v, error %d", x, l, back, e)
	}
}

// checkTurn holds P10.1 of Turn, and that turned twice is as nothing.
func checkTurn(t *testing.T, l []api.Prim) {
	t.Helper()
	if got, want := Turn(l), toldTurn(l); !equalLists(got, want) {
		t.Errorf("%v: turned %v, not %v", l, got, want)
	}
	if got := Turn(Turn(l)); !equalLists(got, l) {
		t.Errorf("%v: turned twice %v", l, got)
	}
}

// checkPass holds P10.2 as it is told, R4, and of P10.3 that the two pass one another back. It tells whether they pass.
func checkPass(t *testing.T, a, b []api.Prim) bool {
	t.Helper()
	ahead, behind, ok := Pass(a, b)
	wantAhead, wantBehind, want := toldPass(a, b)
	if ok != want || !equalLists(ahead, wantAhead) || !equalLists(behind, wantBehind) {
		t.Errorf("%v, %v: %v, %v, %v, not %v, %v, %v", a, b, ahead, behind, ok, wantAhead, wantBehind, want)
	}
	if !ok {
		return false
	}
	if backA, backB, ok := Pass(ahead, behind); !ok || !equalLists(backA, a) || !equalLists(backB, b) {
		t.Errorf("%v, %v: passed back %v, %v, %v", a, b, backA, backB, ok)
	}
	return true
}

// checkJoint holds, of P10.3, that a passes two lists whose joint is b as it passes b, and that two whose joint is a pass b as a does: wherever they are cut.
func checkJoint(t *testing.T, a, b []api.Prim) {
	t.Helper()
	ahead, behind, want := Pass(a, b)
	for k := range len(b) + 1 {
		first, between, ok := Pass(a, b[:k])
		second, end, also := Pass(between, b[k:])
		if !ok && want || ok && also != want || want && (!equalLists(slices.Concat(first, second), ahead) || !equalLists(end, behind)) {
			t.Errorf("%v; %v, %v: %v, %v, %v, %v, %v", a, b[:k], b[k:], first, second, end, ok, also)
		}
	}
	for k := range len(a) + 1 {
		between, second, ok := Pass(a[k:], b)
		front, first, also := Pass(a[:k], between)
		if !ok && want || ok && also != want || want && (!equalLists(front, ahead) || !equalLists(slices.Concat(first, second), behind)) {
			t.Errorf("%v, %v; %v: %v, %v, %v, %v, %v", a[:k], a[k:], b, front, first, second, ok, also)
		}
	}
}

// checkSame holds, of P10.3, that two that change a tree, one behind the other, do so to the same when they have passed. It tells whether they did.
func checkSame(t *testing.T, x api.Tree, a, b []api.Prim) bool {
	t.Helper()
	ahead, behind, ok := Pass(a, b)
	if !ok {
		return false
	}
	want, we := toldApply(x, slices.Concat(a, b))
	got, e := toldApply(x, slices.Concat(ahead, behind))
	if (e == 0) != (we == 0) || !equalTrees(got, want) {
		t.Errorf("%v, %v, %v: %v, error %d; passed, by %v, %v: %v, error %d", x, a, b, want, we, ahead, behind, got, e)
	}
	if we != 0 {
		return false
	}
	mid, e := Apply(x, ahead)
	end, e2 := Apply(mid, behind)
	if e != 0 || e2 != 0 || !equalTrees(end, want) {
		t.Errorf("%v, %v, %v: changed to %v, errors %d and %d, not to %v", x, ahead, behind, end, e, e2, want)
	}
	return true
}

// wrong are changes that may not be: each for one thing alone, or for more.
func wrong() []api.Prim {
	return list(
		api.Prim{}, api.Prim{Kind: -1, Name: "a"}, api.Prim{Kind: 5, Name: "a"}, api.Prim{Kind: -1, Name: "a", To: "b", H: hunkOf(3, "x", "y")},
		api.Prim{Kind: math.MinInt, Name: "a"}, api.Prim{Kind: math.MaxInt, Name: "a", H: hunkOf(0, "x", "y")}, api.Prim{Kind: 3 + 1<<32, Name: "a"},
		add(""), add("A"), add(of(17, "a")), to(add("a"), "b"), with(add("a"), hunkOf(0, "", "x")), at(add("a"), 1),
		rm("a b"), to(rm("a"), "b"), with(rm("a"), hunkOf(0, "x", "")), at(rm("a"), -1),
		move("a", ""), move("a", "a"), move("", "b"), move("a", "B"), move("a", of(17, "b")), with(move("a", "b"), hunkOf(0, "x", "y")), at(move("a", "b"), 1),
		patch("", 0, "", "x"), to(patch("a", 0, "", "x"), "b"), patch("a", -1, "", "x"), patch("a", 1<<20+1, "", "x"), patch("a", math.MinInt, "x", ""), patch("a", math.MaxInt, "x", "y z"),
		with(patch("a", 0, "", ""), api.Hunk{Old: []string{"\n"}}), with(patch("b", 0, "", ""), api.Hunk{New: []string{of(81, "x")}}), with(patch("b", 5, "", ""), api.Hunk{New: many(201, "x")}),
		set("", "", "x"), to(set("a", "x", "y"), "b"), at(set("a", "x", "y"), 1), with(set("a", "", ""), api.Hunk{Old: many(201, "x")}), with(set("b", "", ""), api.Hunk{New: []string{"x\ny"}}),
	)
}

// fair are changes of each kind that may be; which name a, b, c and d.
func fair() []api.Prim {
	return list(
		add("a"), add("b"), add("c"), rm("a"), rm("b"), move("a", "b"), move("b", "a"), move("b", "c"), move("c", "d"),
		patch("a", 0, "", "x"), patch("a", 0, "x", ""), patch("a", 2, "", "y z"), patch("a", 2, "y", ""), patch("a", 5, "x", "y"), patch("b", 1, "x", "y"), patch("b", 3, "", "x"),
		set("a", "", "x"), set("a", "x", "y"), set("b", "x y", ""), set("c", "", "x y x y"),
	)
}

// lists are all lists of at most n of some changes.
func lists(n int, some []api.Prim) [][]api.Prim {
	out := [][]api.Prim{nil}
	for k := 0; k < len(out) && len(out[k]) < n; k++ {
		for _, p := range some {
			out = append(out, append(slices.Clone(out[k]), p))
		}
	}
	return out
}

// P10.1: Apply, ordinary lists.
func TestApply(t *testing.T) {
	for _, x := range []struct {
		from api.Tree
		l    []api.Prim
		want api.Tree
	}{
		{nil, list(add("a"), patch("a", 0, "", "x"), move("a", "b")), api.Tree{file("b", "x")}},
		{nil, list(add("b"), patch("b", 0, "", "x y"), add("a"), set("a", "", "z"), patch("b", 1, "y", "")), api.Tree{file("a", "z"), file("b", "x")}},
		{api.Tree{file("a", "x y")}, list(patch("a", 0, "x", "y"), patch("a", 0, "y y", "z")), api.Tree{file("a", "z")}},
		{api.Tree{file("a", "x y")}, list(patch("a", 0, "x y", ""), rm("a"), add("b"), rm("b")), nil},
		{api.Tree{file("a", "x")}, list(move("a", "b"), add("a"), set("b", "x", "y")), api.Tree{file("a", ""), file("b", "y")}},
		// To and fro, and what is idle.
		{api.Tree{file("a", "x")}, list(move("a", "b"), move("b", "a"), patch("a", 1, "", ""), set("a", "x", "x")), api.Tree{file("a", "x")}},
		// One change alone.
		{nil, list(add("a")), api.Tree{file("a", "")}},
		{api.Tree{file("a", "")}, list(rm("a")), nil},
		{api.Tree{file("a", "x"), file("c", "")}, list(move("a", "d")), api.Tree{file("c", ""), file("d", "x")}},
		{api.Tree{file("a", "x")}, list(patch("a", 1, "", "y")), api.Tree{file("a", "x y")}},
		{api.Tree{file("a", "x")}, list(set("a", "x", "")), api.Tree{file("a", "")}},
		// No change: the tree stays, whatever it is.
		{nil, nil, nil},
		{api.Tree{file("a", "x"), file("b", "")}, nil, api.Tree{file("a", "x"), file("b", "")}},
		{api.Tree{file("a", "x"), file("b", "")}, list(), api.Tree{file("a", "x"), file("b", "")}},
		{api.Tree{file("b", "x"), file("a", "\n"), file("b", "y")}, nil, api.Tree{file("b", "x"), file("a", "\n"), file("b", "y")}},
		{api.Tree{{Name: "A\n", Lines: []string{"x\n", of(81, "x")}}}, list(), api.Tree{{Name: "A\n", Lines: []string{"x\n", of(81, "x")}}}},
		// Of files that do not rise the first one of a name counts.
		{api.Tree{file("b", "x"), file("a", ""), file("b", "y")}, list(patch("b", 0, "x", ""), rm("b")), api.Tree{file("a", ""), file("b", "y")}},
	} {
		if got, e := Apply(x.from, x.l); e != api.OK || !equalTrees(got, x.want) {
			t.Errorf("%v, %v: %v, error %d", x.from, x.l, got, e)
		}
		checkApply(t, x.from, x.l)
	}
}

// P10.1, R2, R4: the first error, wherever it is, and no tree.
func TestApplyErrors(t *testing.T) {
	none, bad := patch("z", 0, "", "x"), move("a", "a")
	fits := list(add("a"), patch("a", 0, "", "x"), add("b"))
	for _, x := range []struct {
		l    []api.Prim
		want api.Errno
	}{
		// The first one, the last one, one in the middle, the only one.
		{append(list(none), fits...), 5},
		{append(list(bad), fits...), 1},
		{append(slices.Clone(fits), none), 5},
		{append(slices.Clone(fits), bad), 1},
		{slices.Insert(slices.Clone(fits), 1, none), 5},
		{slices.Insert(slices.Clone(fits), 1, bad), 1},
		{list(none), 5},
		{list(bad), 1},
		// Two that have different ones.
		{append(list(none), append(slices.Clone(fits), bad)...), 5},
		{append(list(bad), append(slices.Clone(fits), none)...), 1},
		{list(add("a"), none, bad), 5},
		{list(add("a"), bad, none), 1},
		{list(none, bad), 5},
		{list(bad, none), 1},
		// One that would fit, were it not where it is.
		{list(patch("a", 0, "", "x"), add("a")), 5},
		{list(add("a"), rm("a"), patch("a", 0, "", "x")), 5},
		{list(add("a"), add("a")), 5},
		{list(add("a"), add("b"), move("a", "b")), 5},
		{list(add("a"), set("a", "", "x"), rm("a")), 5},
		{list(add("a"), patch("a", 0, "", "x"), patch("a", 0, "y", "")), 5},
		{list(add("a"), patch("a", 1, "", "x"), patch("a", 0, "", "y")), 5},
		{list(add("a"), set("a", "", "x y"), set("a", "x", "y")), 5},
	} {
		for _, from := range []api.Tree{nil, {file("c", "x y")}} {
			if got, e := Apply(from, x.l); e != x.want || len(got) != 0 {
				t.Errorf("%v, %v: %v, error %d, not %d", from, x.l, got, e, x.want)
			}
			checkApply(t, from, x.l)
		}
	}
	// Each that may not be, in each place: it is not changed to what another one has made of the tree.
	for _, p := range wrong() {
		for k := range len(fits) + 1 {
			if got, e := Apply(nil, slices.Insert(slices.Clone(fits), k, p)); e != api.ErrArg || len(got) != 0 {
				t.Errorf("%v in place %d: %v, error %d", p, k, got, e)
			}
		}
	}
}

// P10.1: neither list nor tree is bounded, but only each change.
func TestApplyMany(t *testing.T) {
	var l []api.Prim
	var want api.Tree
	for k := range 250 {
		name := fmt.Sprintf("f%03d", k)
		l = append(l, add(name), with(set(name, "", ""), api.Hunk{New: many(200, "x")}), patch(name, 200, "", "y"))
		want = append(want, api.File{Name: name, Lines: append(many(200, "x"), "y")})
	}
	// What lies behind the limit of a file can't be set again, but patched.
	got, e := Apply(nil, l)
	if e != api.OK || !equalTrees(got, want) {
		t.Errorf("%d files, error %d", len(got), e)
	}
	if back, e := Apply(got, Turn(l)); e != api.OK || len(back) != 0 {
		t.Errorf("changed back: %d files, error %d", len(back), e)
	}
	if !May(l) || !Same(l, slices.Clone(l)) || Same(l, l[:len(l)-1]) {
		t.Error("may be, or are the same")
	}
}

// P10.1: Apply, all lists of at most three, on some trees.
func TestApplyAllSmall(t *testing.T) {
	some := append(fair(), move("a", "a"), api.Prim{Kind: 5, Name: "a"})
	for _, x := range []api.Tree{nil, {file("a", "")}, {file("a", "x"), file("b", "x y")}, {file("a", "y y y"), file("c", "")}, {file("b", "x"), file("a", "x y z")}} {
		for _, l := range lists(3, some) {
			checkApply(t, x, l)
		}
	}
}

// P10.1: Turn.
func TestTurn(t *testing.T) {
	for _, x := range []struct{ l, want []api.Prim }{
		{nil, nil},
		{list(), nil},
		{list(add("a")), list(rm("a"))},
		{list(add("a"), patch("a", 0, "", "x"), move("a", "b")), list(move("b", "a"), patch("a", 0, "x", ""), rm("a"))},
		{list(rm("a"), rm("b"), rm("c")), list(add("c"), add("b"), add("a"))},
		{list(patch("a", 3, "x y", "z"), set("b", "v", "")), list(set("b", "", "v"), patch("a", 3, "z", "x y"))},
		{list(move("a", "b"), move("b", "c")), list(move("c", "b"), move("b", "a"))},
		{list(add("a"), add("a")), list(rm("a"), rm("a"))},
		// Such as may not be, in each place.
		{list(api.Prim{Kind: 5, Name: "A", To: "b", H: hunkOf(-1, "x", "y z")}, add("a")), list(rm("a"), api.Prim{Kind: 5, Name: "A", To: "b", H: hunkOf(-1, "y z", "x")})},
		{list(add("a"), to(add(""), "b"), rm("c")), list(add("c"), to(rm(""), "b"), rm("a"))},
		{list(add("a"), move("", "\n")), list(move("\n", ""), rm("a"))},
	} {
		if got := Turn(x.l); !equalLists(got, x.want) {
			t.Errorf("%v: turned %v", x.l, got)
		}
		checkTurn(t, x.l)
	}
	for _, l := range lists(2, append(fair(), wrong()...)) {
		checkTurn(t, l)
	}
}

// P10.1: Same, lists that differ in one thing alone.
func TestSame(t *testing.T) {
	l := func() []api.Prim {
		return list(add("a"), patch("a", 3, "x y", "z"), move("a", "b"), set("b", "v", "w"))
	}
	if !Same(l(), l()) {
		t.Error("two are not the same")
	}
	differ := func(what string, a, b []api.Prim) {
		t.Helper()
		if Same(a, b) || Same(b, a) {
			t.Errorf("%s: %v, %v", what, a, b)
		}
	}
	differ("one more, behind", l(), append(l(), rm("c")))
	differ("one more, the same as the last one", l(), append(l(), set("b", "v", "w")))
	differ("one more, a zero value", l(), append(l(), api.Prim{}))
	differ("one more, ahead", l(), append(list(rm("c")), l()...))
	differ("one less", l(), l()[:3])
	differ("none", l(), nil)
	differ("none, and one", nil, list(api.Prim{}))
	for k := range l() {
		differ("without one", l(), slices.Delete(l(), k, k+1))
		for what, other := range map[string]func(*api.Prim){
			"Kind":  func(p *api.Prim) { p.Kind++ },
			"Name":  func(p *api.Prim) { p.Name += "c" },
			"To":    func(p *api.Prim) { p.To += "c" },
			"At":    func(p *api.Prim) { p.H.At++ },
			"Old":   func(p *api.Prim) { p.H.Old = append(slices.Clone(p.H.Old), "") },
			"New":   func(p *api.Prim) { p.H.New = append(slices.Clone(p.H.New), "c") },
			"lines": func(p *api.Prim) { p.H.Old, p.H.New = append(words("k"), p.H.New...), p.H.Old },
		} {
			b := l()
			other(&b[k])
			differ(what, l(), b)
		}
	}
	differ("in another order", l(), append(l()[1:], l()[0]))
	differ("the first two", list(add("a"), add("b")), list(add("b"), add("a")))
	differ("the joint is the same", list(patch("a", 0, "x y", "")), list(patch("a", 0, "x", "y")))
	// What may not be is the same as itself, too.
	for _, p := range wrong() {
		for _, q := range append(wrong(), fair()...) {
			if got := Same(list(add("a"), p), list(add("a"), q)); got != equal(p, q) {
				t.Errorf("%v, %v: the same: %v", p, q, got)
			}
		}
	}
}

// P10.1, R6: Same of nil and empty lists, of changes and of lines.
func TestSameNothing(t *testing.T) {
	for _, a := range [][]api.Prim{nil, {}, make([]api.Prim, 0, 3)} {
		for _, b := range [][]api.Prim{nil, {}, make([]api.Prim, 0, 3)} {
			if !Same(a, b) {
				t.Errorf("%#v, %#v: not the same", a, b)
			}
		}
	}
	if !Same(list(with(patch("a", 1, "", ""), api.Hunk{At: 1})), list(with(patch("a", 1, "", ""), api.Hunk{At: 1, Old: []string{}, New: []string{}}))) {
		t.Error("without lines: not the same")
	}
}

// P10.1: Same, all pairs of lists of at most two.
func TestSameAllSmall(t *testing.T) {
	all := lists(2, fair())
	for i, a := range all {
		for j, b := range all {
			if got := Same(a, b); got != (i == j) {
				t.Errorf("%v, %v: the same: %v", a, b, got)
			}
		}
	}
}

// P10.1: May, with one that may not be in each place.
func TestMay(t *testing.T) {
	for _, l := range append(lists(2, fair()), fair(), slices.Repeat(fair(), 50), list()) {
		if !May(l) {
			t.Errorf("%v may not be", l)
		}
	}
	for _, p := range wrong() {
		if prim.May(p) {
			t.Errorf("%v may be", p)
		}
		for _, l := range [][]api.Prim{nil, list(add("a")), list(add("a"), patch("b", 0, "", "x")), list(p), list(add("a"), p, rm("a"))} {
			for k := range len(l) + 1 {
				if May(slices.Insert(slices.Clone(l), k, p)) {
					t.Errorf("%v may be, with %v in place %d", l, p, k)
				}
			}
		}
	}
	// Whether they fit is all the same.
	if !May(list(add("a"), add("a"), rm("b"), patch("c", 1<<20, "x", ""))) {
		t.Error("such as don't fit may not be")
	}
}

// P10.2: ordinary lists that pass.
func TestPass(t *testing.T) {
	for _, x := range []struct{ a, b, ahead, behind []api.Prim }{
		// One and one.
		{list(add("a")), list(add("b")), list(add("b")), list(add("a"))},
		{list(move("a", "b")), list(patch("b", 0, "", "x")), list(patch("a", 0, "", "x")), list(move("a", "b"))},
		{list(patch("a", 0, "", "x")), list(patch("a", 5, "b", "")), list(patch("a", 4, "b", "")), list(patch("a", 0, "", "x"))},
		// One of b passes those of a from the last one on: else it would not be of the file that is patched.
		{list(patch("a", 0, "", "x"), move("a", "b")), list(patch("b", 5, "y", "")), list(patch("a", 4, "y", "")), list(patch("a", 0, "", "x"), move("a", "b"))},
		{list(patch("a", 0, "", "x"), move("a", "b")), list(patch("b", 5, "", "y"), patch("b", 9, "", "z")), list(patch("a", 4, "", "y"), patch("a", 8, "", "z")), list(patch("a", 0, "", "x"), move("a", "b"))},
		{list(patch("a", 5, "", "x"), patch("a", 8, "", "y")), list(patch("a", 0, "", "z")), list(patch("a", 0, "", "z")), list(patch("a", 6, "", "x"), patch("a", 9, "", "y"))},
		{list(patch("a", 0, "x", ""), patch("a", 3, "", "y y")), list(patch("a", 9, "z", "")), list(patch("a", 8, "z", "")), list(patch("a", 0, "x", ""), patch("a", 3, "", "y y"))},
		// It passes the last one only as it is, and the one ahead only as it is then.
		{list(patch("a", 4, "", "x"), patch("a", 0, "v v", "")), list(patch("a", 5, "y", "")), list(patch("a", 6, "y", "")), list(patch("a", 4, "", "x"), patch("a", 0, "v v", ""))},
		{list(move("a", "b"), patch("b", 0, "", "x"), add("a")), list(set("c", "", "y"), patch("b", 4, "z", "")), list(set("c", "", "y"), patch("a", 3, "z", "")), list(move("a", "b"), patch("b", 0, "", "x"), add("a"))},
		// One of b passes only because of what one ahead of it made of those of a.
		{list(patch("a", 0, "", "x")), list(move("a", "b"), add("a")), list(move("a", "b"), add("a")), list(patch("b", 0, "", "x"))},
		{list(patch("a", 0, "", "x")), list(move("a", "b"), add("a"), patch("a", 0, "", "y")), list(move("a", "b"), add("a"), patch("a", 0, "", "y")), list(patch("b", 0, "", "x"))},
		{list(patch("a", 3, "", "x")), list(patch("a", 0, "", "v v"), patch("a", 3, "y", "")), list(patch("a", 0, "", "v v"), patch("a", 3, "y", "")), list(patch("a", 4, "", "x"))},
		{list(set("a", "", "x")), list(move("a", "b"), add("a"), set("a", "", "y")), list(move("a", "b"), add("a"), set("a", "", "y")), list(set("b", "", "x"))},
		// A change of a is another one for each of b that passes it.
		{list(patch("a", 9, "x", "y")), list(patch("a", 0, "", "v"), move("a", "c"), patch("c", 3, "w w", ""), move("c", "b"), patch("b", 20, "z", "")), list(patch("a", 0, "", "v"), move("a", "c"), patch("c", 3, "w w", ""), move("c", "b"), patch("b", 20, "z", "")), list(patch("b", 8, "x", "y"))},
		{list(patch("a", 2, "", "x"), patch("b", 4, "y", "")), list(move("b", "c"), move("a", "b"), patch("b", 0, "v", ""), patch("c", 0, "", "w")), list(move("b", "c"), move("a", "b"), patch("b", 0, "v", ""), patch("c", 0, "", "w")), list(patch("b", 1, "", "x"), patch("c", 5, "y", ""))},
		// Both become others.
		{list(move("a", "b"), patch("c", 5, "", "x")), list(patch("b", 0, "", "y"), move("c", "a"), set("d", "", "z")), nil, nil},
		{list(move("a", "b"), patch("c", 5, "", "x")), list(patch("b", 0, "", "y"), move("c", "e"), patch("e", 0, "", "z")), list(patch("a", 0, "", "y"), move("c", "e"), patch("e", 0, "", "z")), list(move("a", "b"), patch("e", 6, "", "x"))},
		{list(patch("a", 0, "", "x x"), patch("a", 9, "y", "")), list(patch("a", 5, "", "z"), patch("a", 20, "w", "")), list(patch("a", 3, "", "z"), patch("a", 19, "w", "")), list(patch("a", 0, "", "x x"), patch("a", 10, "y", ""))},
	} {
		ahead, behind, ok := Pass(x.a, x.b)
		if ok != (len(x.ahead) > 0) || !equalLists(ahead, x.ahead) || !equalLists(behind, x.behind) {
			t.Errorf("%v, %v: %v, %v, %v", x.a, x.b, ahead, behind, ok)
		}
		checkPass(t, x.a, x.b)
		checkJoint(t, x.a, x.b)
	}
}

// P10.2, R6: the chapter's example: nothing passes all, all passes nothing; whatever it is, also what may not be.
func TestPassNothing(t *testing.T) {
	nothings := [][]api.Prim{nil, {}, make([]api.Prim, 0, 3)}
	all := append(lists(2, fair()), fair(), wrong(), list(add("a"), add("a"), rm("b")), list(patch("a", 1, "x", "y z"), move("a", "b"), set("b", "", "x")))
	for _, p := range wrong() {
		all = append(all, list(p), list(p, p), list(add("a"), p), list(p, patch("b", 0, "", "x")))
	}
	for _, none := range nothings {
		for _, l := range append(all, nothings...) {
			if ahead, behind, ok := Pass(none, l); !ok || !equalLists(ahead, l) || len(behind) != 0 {
				t.Errorf("nothing, %v: %v, %v, %v", l, ahead, behind, ok)
			}
			if ahead, behind, ok := Pass(l, none); !ok || len(ahead) != 0 || !equalLists(behind, l) {
				t.Errorf("%v, nothing: %v, %v, %v", l, ahead, behind, ok)
			}
			checkPass(t, none, l)
			checkPass(t, l, none)
			checkJoint(t, none, l)
			checkJoint(t, l, none)
		}
	}
}

// P10.2, R4: lists of which one can't pass.
func TestPassWhatHangs(t *testing.T) {
	a := list(add("a"), patch("e", 9, "", "x"), add("b"))
	for _, b := range [][]api.Prim{
		// The first one, or the last one, or one in the middle, of b can't pass the first one of a.
		list(patch("a", 0, "", "y"), add("c"), add("d")),
		list(add("c"), add("d"), patch("a", 0, "", "y")),
		list(add("c"), patch("a", 0, "", "y"), add("d")),
		// Nor the last one of a.
		list(patch("b", 0, "", "y"), add("c"), add("d")),
		list(add("c"), add("d"), patch("b", 0, "", "y")),
		list(add("c"), patch("b", 0, "", "y"), add("d")),
		// Nor the middle one.
		list(patch("e", 9, "", "y"), add("c"), add("d")),
		list(add("c"), add("d"), patch("e", 9, "", "y")),
		list(add("c"), patch("e", 10, "", "y"), add("d")),
		// Nor any.
		list(rm("a"), rm("e"), rm("b")),
		// One alone.
		list(rm("a")),
		list(rm("b")),
		list(set("e", "x", "")),
		// Two of b that can't.
		list(rm("a"), rm("b")),
		list(add("c"), rm("b"), rm("a")),
		// One of b hangs on one ahead of it only, and so they pass.
		list(add("c"), patch("c", 0, "", "x"), rm("c")),
	} {
		want := b[0].Name == "c" && b[len(b)-1].Name == "c"
		ahead, behind, ok := Pass(a, b)
		if ok != want || !want && (len(ahead) != 0 || len(behind) != 0) {
			t.Errorf("%v, %v: %v, %v, %v", a, b, ahead, behind, ok)
		}
		checkPass(t, a, b)
		checkJoint(t, a, b)
	}
	for _, x := range []struct{ a, b []api.Prim }{
		// One of b would pass a as it was, but not as one ahead of it has made it.
		{list(patch("a", 0, "", "x")), list(move("a", "b"), patch("b", 0, "", "y"))},
		{list(patch("a", 0, "", "x")), list(move("a", "b"), rm("b"))},
		{list(patch("a", 3, "", "x")), list(patch("a", 0, "", "v v"), patch("a", 6, "", "y"))},
		// One passes the last one of a, and not the one ahead, as it is then.
		{list(add("a"), move("a", "b")), list(patch("b", 0, "", "x"))},
		{list(patch("a", 4, "", "x"), patch("a", 0, "v v", "")), list(patch("a", 3, "y", ""))},
		{list(patch("a", 0, "", "x"), move("a", "b")), list(patch("b", 1, "", "y"))},
		// An At would be above 2^20, on the way.
		{list(patch("a", 0, "", "x"), patch("a", 0, "x", "")), list(patch("a", 1<<20, "", "y"))},
		{list(patch("a", 1<<20, "", "y")), list(patch("a", 0, "", "x"), patch("a", 0, "x", ""))},
		{list(patch("a", 0, "x", "")), list(patch("a", 1<<20, "", "y"))},
		{list(patch("a", 1<<20, "", "")), list(patch("a", 0, "", "x"))},
	} {
		if ahead, behind, ok := Pass(x.a, x.b); ok || len(ahead) != 0 || len(behind) != 0 {
			t.Errorf("%v, %v: %v, %v, %v", x.a, x.b, ahead, behind, ok)
		}
		checkPass(t, x.a, x.b)
		checkJoint(t, x.a, x.b)
	}
}

// P10.2: an At that would be just 2^20 passes, and one goes there and back on the way.
func TestPassFar(t *testing.T) {
	const end = 1 << 20
	for _, x := range []struct{ a, b, ahead, behind []api.Prim }{
		{list(patch("a", 0, "x", "")), list(patch("a", end-1, "", "y")), list(patch("a", end, "", "y")), list(patch("a", 0, "x", ""))},
		{list(patch("a", end-1, "", "y")), list(patch("a", 0, "", "x")), list(patch("a", 0, "", "x")), list(patch("a", end, "", "y"))},
		{list(patch("a", 0, "x", ""), patch("a", 0, "", "x")), list(patch("a", end, "", "y")), list(patch("a", end, "", "y")), list(patch("a", 0, "x", ""), patch("a", 0, "", "x"))},
		{list(patch("a", 5, "", "x"), patch("a", 0, "v", "")), list(patch("a", end-1, "", "y")), list(patch("a", end-1, "", "y")), list(patch("a", 5, "", "x"), patch("a", 0, "v", ""))},
		{list(patch("a", end-1, "", "y")), list(patch("a", 0, "", "x"), patch("a", 5, "v", "")), list(patch("a", 0, "", "x"), patch("a", 5, "v", "")), list(patch("a", end-1, "", "y"))},
	} {
		ahead, behind, ok := Pass(x.a, x.b)
		if !ok || !equalLists(ahead, x.ahead) || !equalLists(behind, x.behind) {
			t.Errorf("%v, %v: %v, %v, %v", x.a, x.b, ahead, behind, ok)
		}
		checkPass(t, x.a, x.b)
		checkJoint(t, x.a, x.b)
	}
}

// P10.2, R1, R4: a change that may not be passes nothing but nothing, in each place of a and of b.
func TestPassWhatMayNotBe(t *testing.T) {
	l := list(add("u"), patch("v", 3, "x", "y"), move("w", "z"))
	other := list(set("k", "", "x"), rm("l"))
	if _, _, ok := Pass(l, other); !ok {
		t.Fatal("without them they don't pass")
	}
	for _, p := range wrong() {
		for k := range len(l) + 1 {
			with := slices.Insert(slices.Clone(l), k, p)
			for _, x := range [][2][]api.Prim{{with, other}, {other, with}, {with, with}, {with, list(p)}, {list(p), with}, {list(p), other}, {other, list(p)}} {
				if ahead, behind, ok := Pass(x[0], x[1]); ok || len(ahead) != 0 || len(behind) != 0 {
					t.Errorf("%v, %v: %v, %v, %v", x[0], x[1], ahead, behind, ok)
				}
				checkPass(t, x[0], x[1])
			}
			checkJoint(t, with, other)
			checkJoint(t, other, with)
		}
	}
}

// P10.2, P10.3: all pairs of lists of at most two of some changes, whether they fit or not.
func TestPassAllSmall(t *testing.T) {
	some := list(
		add("a"), rm("b"), move("a", "b"), move("b", "a"), move("b", "c"), move("c", "a"), patch("a", 0, "", "x"), patch("a", 2, "y", ""), patch("a", 5, "", "y z"),
		patch("b", 1, "x", "y"), patch("b", 4, "", "x"), set("a", "x", "y"), set("b", "x y", ""), patch("c", 0, "", ""), move("a", "a"), at(add("a"), 1),
	)
	passed := [3][3]int{}
	all := lists(2, some)
	for _, a := range all {
		for _, b := range all {
			if checkPass(t, a, b) {
				passed[len(a)][len(b)]++
			}
			checkJoint(t, a, b)
		}
	}
	if passed[1][1] < 50 || passed[1][2] < 300 || passed[2][1] < 300 || passed[2][2] < 2000 {
		t.Errorf("only %d pass", passed)
	}
}

// P10.3, P3: all stories of four of some changes on some trees, cut in two.
func TestSameOnAllSmallTrees(t *testing.T) {
	some := list(
		add("a"), add("c"), rm("a"), rm("c"), move("a", "b"), move("b", "a"), move("b", "c"), move("c", "a"), patch("a", 0, "", "x"), patch("a", 0, "x", ""), patch("a", 2, "y", ""), patch("a", 4, "", "y z"),
		patch("b", 1, "x", "y"), patch("b", 0, "", "x"), patch("b", 3, "x", ""), patch("c", 1, "", ""), set("a", "x", "y"), set("b", "x x", ""), set("c", "", "x x"),
	)
	passed := [5]int{}
	var tell func(x, now api.Tree, story []api.Prim)
	tell = func(x, now api.Tree, story []api.Prim) {
		for k := range len(story) + 1 {
			if checkSame(t, x, story[:k], story[k:]) && len(story) == 4 {
				passed[k]++
			}
		}
		for _, p := range some {
			if next, e := prim.Apply(now, p); e == api.OK && len(story) < 4 {
				tell(x, next, append(slices.Clone(story), p))
			}
		}
	}
	for _, x := range []api.Tree{nil, {file("b", "x x")}, {file("a", "x"), file("b", "")}, {file("a", "x z y z x"), file("b", "x x z x x")}, {file("b", "x x x x x"), file("c", "")}} {
		tell(x, x, nil)
	}
	if passed[1] < 1000 || passed[2] < 1000 || passed[3] < 1000 {
		t.Errorf("only %d pass", passed)
	}
}

// P10.3: what does not change a tree, one behind the other, does not do so passed.
func TestSameWhereTheyDoNotFit(t *testing.T) {
	all := lists(2, fair()[:16])
	for _, x := range []api.Tree{nil, {file("a", "x y")}, {file("b", "x x x"), file("c", "")}} {
		for _, a := range all {
			for _, b := range all {
				checkSame(t, x, a, b)
			}
		}
	}
}

// fit is a change that fits a tree, as next chooses it: a number from 0 on, below the one that it is given.
func fit(x api.Tree, next func(int) int) api.Prim {
	free := slices.DeleteFunc(words("a b c d e f"), func(s string) bool {
		return slices.ContainsFunc(x, func(f api.File) bool { return f.Name == s })
	})
	what := next(12)
	if len(x) == 0 || what == 0 && len(free) > 0 {
		return add(free[next(len(free))])
	}
	f := x[next(len(x))]
	if what <= 2 && len(free) > 0 {
		return move(f.Name, free[next(len(free))])
	}
	if what == 3 && len(f.Lines) == 0 {
		return rm(f.Name)
	}
	now := numbered(50)[next(50):][:next(3)%2]
	if what == 4 {
		return with(set(f.Name, "", ""), api.Hunk{Old: slices.Clone(f.Lines), New: append(slices.Clone(f.Lines), now...)})
	}
	from := next(len(f.Lines) + 1)
	old := f.Lines[from:][:next(min(3, len(f.Lines)-from+1))]
	return with(patch(f.Name, 0, "", ""), api.Hunk{At: from, Old: slices.Clone(old), New: slices.Clone(now)})
}

// story are n changes, one behind the other, that change a tree, and what that is then.
func story(x api.Tree, n int, next func(int) int) ([]api.Prim, api.Tree) {
	var l []api.Prim
	for range n {
		p := fit(x, next)
		y, e := prim.Apply(x, p)
		if e != api.OK {
			break
		}
		l, x = append(l, p), y
	}
	return l, x
}

// P10.1 to P10.3: longer stories, cut in two, of a tree with long files.
func TestStories(t *testing.T) {
	chance := rand.New(rand.NewPCG(10, 3))
	start := api.Tree{{Name: "a", Lines: numbered(40)}, {Name: "c", Lines: numbered(30)}, {Name: "e"}}
	passed := 0
	for range 20000 {
		a, mid := story(start, chance.IntN(5), chance.IntN)
		b, _ := story(mid, chance.IntN(5), chance.IntN)
		checkApply(t, start, slices.Concat(a, b))
		checkTurn(t, a)
		if checkPass(t, a, b) && checkSame(t, start, a, b) && len(a) > 1 && len(b) > 1 {
			passed++
		}
		checkJoint(t, a, b)
		if t.Failed() {
			return
		}
	}
	if passed < 1000 {
		t.Errorf("only %d pass", passed)
	}
}

// P10.1, P10.3: what a and b, or the two that they pass to, have changed, they change back, turned.
func TestChangedBack(t *testing.T) {
	chance := rand.New(rand.NewPCG(7, 7))
	start := api.Tree{{Name: "a", Lines: numbered(40)}, {Name: "c", Lines: numbered(30)}, {Name: "e"}}
	passed := 0
	for range 5000 {
		a, mid := story(start, 1+chance.IntN(4), chance.IntN)
		b, end := story(mid, 1+chance.IntN(4), chance.IntN)
		ahead, behind, ok := Pass(a, b)
		if !ok {
			continue
		}
		passed++
		all := slices.Concat(a, b, Turn(b), Turn(a))
		if got, e := Apply(start, all); e != api.OK || !equalTrees(got, start) {
			t.Errorf("%v: %v, error %d", all, got, e)
		}
		if got, e := Apply(end, slices.Concat(Turn(behind), Turn(ahead))); e != api.OK || !equalTrees(got, start) {
			t.Errorf("%v, %v, passed, changed back: %v, error %d", a, b, got, e)
		}
	}
	if passed < 500 {
		t.Errorf("only %d pass", passed)
	}
}

// P10.2, P10.3: lists of many changes, more than one patch may have.
func TestPassMany(t *testing.T) {
	var a, b, wantAhead, wantBehind []api.Prim
	for k := range 250 {
		a = append(a, patch("a", 1000-2*k, "", "x"))
		wantBehind = append(wantBehind, patch("b", 1000-2*k+300, "", "x"))
	}
	for k := range 300 {
		b = append(b, patch("a", k, "", "y"))
	}
	b = append(b, move("a", "b"), patch("b", 2000, "", "z"))
	wantAhead = append(slices.Clone(b[:301]), patch("b", 1750, "", "z"))
	ahead, behind, ok := Pass(a, b)
	if !ok || !equalLists(ahead, wantAhead) || !equalLists(behind, wantBehind) {
		t.Errorf("%v, %v, %v", ahead, behind, ok)
	}
	checkPass(t, a, b)
	checkSame(t, api.Tree{{Name: "a", Lines: numbered(2500)}}, a, b)
}

// marked is a list of changes with room behind it, and behind the lines of each, in which a write is seen; markedTree a tree so.
func marked(l []api.Prim) []api.Prim {
	out := append(slices.Clone(l), add("mark"), add("mark"))[:len(l)]
	for k, p := range out {
		out[k].H.Old, out[k].H.New = markedLines(p.H.Old), markedLines(p.H.New)
	}
	return out
}

func markedTree(x api.Tree) api.Tree {
	out := append(slices.Clone(x), file("mark", ""), file("mark", ""))[:len(x)]
	for k, f := range out {
		out[k].Lines = markedLines(f.Lines)
	}
	return out
}

func markedLines(l []string) []string { return append(slices.Clone(l), "mark", "mark")[:len(l)] }

// unmarked tells whether a list is still as marked made it of was; unmarkedTree the same of a tree.
func unmarked(l, was []api.Prim) bool {
	room := l[len(l) : len(l)+2]
	return equalLists(l, was) && equal(room[0], add("mark")) && equal(room[1], add("mark")) &&
		!slices.ContainsFunc(l, func(p api.Prim) bool { return !stillMarked(p.H.Old) || !stillMarked(p.H.New) })
}

func unmarkedTree(x, was api.Tree) bool {
	room := x[len(x) : len(x)+2]
	return equalTrees(x, was) && equalTrees(room, api.Tree{file("mark", ""), file("mark", "")}) &&
		!slices.ContainsFunc(x, func(f api.File) bool { return !stillMarked(f.Lines) })
}

func stillMarked(l []string) bool { return slices.Equal(l[len(l):len(l)+2], words("mark mark")) }

// spoil writes over a list, and over the room behind it, one's lines ahead of itself; spoilTree over a tree.
func spoil(l []api.Prim) {
	for k := range l {
		spoilLines(l[k].H.Old)
		spoilLines(l[k].H.New)
	}
	l = l[:cap(l)]
	for k := range l {
		l[k] = api.Prim{Kind: 9, Name: "spoilt"}
	}
}

func spoilTree(x api.Tree) {
	for k := range x {
		spoilLines(x[k].Lines)
	}
	x = x[:cap(x)]
	for k := range x {
		x[k] = api.File{Name: "spoilt"}
	}
}

func spoilLines(l []string) {
	l = l[:cap(l)]
	for k := range l {
		l[k] = "spoilt"
	}
}

// kept is a list of changes once more, as a test keeps it; keptTree a tree.
func kept(l []api.Prim) []api.Prim {
	out := slices.Clone(l)
	for k, p := range out {
		out[k].H.Old, out[k].H.New = slices.Clone(p.H.Old), slices.Clone(p.H.New)
	}
	return out
}

func keptTree(x api.Tree) api.Tree {
	out := slices.Clone(x)
	for k, f := range out {
		out[k].Lines = slices.Clone(f.Lines)
	}
	return out
}

// checkApart holds, of lists of changes that are answered, that none of their lines share memory, nor they themselves.
func checkApart(t *testing.T, answered ...[]api.Prim) {
	t.Helper()
	var lines, was [][]string
	for _, l := range answered {
		for _, p := range l {
			lines = append(lines, p.H.Old, p.H.New)
			was = append(was, slices.Clone(p.H.Old), slices.Clone(p.H.New))
		}
	}
	for k, l := range lines {
		spoilLines(l)
		for n := k + 1; n < len(lines); n++ {
			if !slices.Equal(lines[n], was[n]) {
				t.Errorf("lists of lines %d and %d of what is answered, %v, are shared", k, n, answered)
			}
		}
	}
	for k, l := range answered {
		var left [][]api.Prim
		for _, other := range answered[k+1:] {
			left = append(left, kept(other))
		}
		spoil(l)
		for n, other := range answered[k+1:] {
			if !equalLists(other, left[n]) {
				t.Errorf("lists %d and %d of what is answered are shared", k, k+1+n)
			}
		}
	}
}

// checkOwnPass holds R3 of Pass, Turn, Same and May: what is handed in stays, its room too, and what is answered shares nothing with that, nor within itself.
func checkOwnPass(t *testing.T, a, b []api.Prim) {
	t.Helper()
	inA, inB := marked(a), marked(b)
	stays := func(what string) {
		t.Helper()
		if !unmarked(inA, a) || !unmarked(inB, b) {
			t.Fatalf("%v, %v: what was handed in is now %v, %v: %s", a, b, inA, inB, what)
		}
	}
	wantAhead, wantBehind, want := toldPass(a, b)
	ahead, behind, ok := Pass(inA, inB)
	turned := Turn(inA)
	Same(inA, inB)
	May(inA)
	stays("changed")
	checkApart(t, ahead, behind)
	checkApart(t, turned)
	stays("shared with what is answered")
	ahead, behind, ok = Pass(inA, inB)
	turned = Turn(inA)
	spoil(inA)
	spoil(inB)
	if ok != want || !equalLists(ahead, wantAhead) || !equalLists(behind, wantBehind) {
		t.Errorf("%v, %v: what was answered is then %v, %v", a, b, ahead, behind)
	}
	if !equalLists(turned, toldTurn(a)) {
		t.Errorf("%v: what was answered, turned, is then %v", a, turned)
	}
}

// checkOwnApply holds R3 of Apply.
func checkOwnApply(t *testing.T, x api.Tree, l []api.Prim) {
	t.Helper()
	inX, inL := markedTree(x), marked(l)
	stays := func(what string) {
		t.Helper()
		if !unmarkedTree(inX, x) || !unmarked(inL, l) {
			t.Fatalf("%v, %v: what was handed in is now %v, %v: %s", x, l, inX, inL, what)
		}
	}
	want, we := toldApply(x, l)
	want = keptTree(want)
	got, _ := Apply(inX, inL)
	stays("changed")
	for k := range got {
		spoilLines(got[k].Lines)
		for n := k + 1; n < len(got); n++ {
			if !slices.Equal(got[n].Lines, want[n].Lines) {
				t.Errorf("%v, %v: files %d and %d of what is answered share lines", x, l, k, n)
			}
		}
	}
	spoilTree(got)
	stays("shared with what is answered")
	got, e := Apply(inX, inL)
	spoilTree(inX)
	spoil(inL)
	if e != we || !equalTrees(got, want) {
		t.Errorf("%v, %v: what was answered is then %v, error %d", x, l, got, e)
	}
}

// R3: lists of which some pass, some don't, some may not be, and some are nothing.
func TestNothingIsShared(t *testing.T) {
	some := list(
		add("a"), move("a", "b"), move("b", "c"), patch("a", 0, "", "x y"), patch("a", 4, "x", ""), patch("b", 2, "x y", "z v"), patch("b", 7, "", ""), set("a", "x", "y z"), set("c", "", "x"),
		api.Prim{Kind: 5, Name: "a", H: hunkOf(3, "x y", "z")}, with(add("a"), hunkOf(0, "x", "y")), with(move("c", "d"), api.Hunk{Old: []string{}}),
	)
	all := lists(2, some)
	all = append(all, wrong(), fair(), list())
	for _, a := range all {
		for _, b := range all {
			checkOwnPass(t, a, b)
		}
	}
	for _, x := range []api.Tree{nil, {}, {file("a", "x")}, {file("a", ""), file("b", "x y x y")}, {file("b", "x"), file("a", "\n"), file("b", "x")}, {{Name: "c", Lines: []string{}}}} {
		for _, l := range all {
			checkOwnApply(t, x, l)
		}
	}
}

// R3: one list of lines that all have, pieces of it, and one list of changes as both.
func TestOneListManyTimes(t *testing.T) {
	lines := markedLines(words("x y x y"))
	hunks := []api.Hunk{{Old: lines, New: lines}, {Old: lines[:2], New: lines[2:]}, {Old: lines[:0], New: lines}, {Old: lines, New: lines[4:]}, {Old: lines[1:3], New: lines[1:2]}, {Old: lines[:0], New: lines[:0]}}
	check := func(a, b []api.Prim) {
		wantAhead, wantBehind, want := toldPass(a, b)
		wantAhead, wantBehind = kept(wantAhead), kept(wantBehind)
		ahead, behind, ok := Pass(a, b)
		if ok != want || !equalLists(ahead, wantAhead) || !equalLists(behind, wantBehind) {
			t.Errorf("%v, %v: %v, %v, %v", a, b, ahead, behind, ok)
		}
		checkApart(t, ahead, behind)
		checkApart(t, Turn(a))
		if !slices.Equal(lines[:6], words("x y x y mark mark")) {
			t.Fatalf("%v, %v: %q", a, b, lines[:6])
		}
	}
	for _, g := range hunks {
		for _, h := range hunks {
			p, q := with(patch("a", 0, "", ""), g), with(patch("a", 0, "", ""), h)
			check(list(p, at(q, 10)), list(at(p, 20), at(q, 30)))
			check(list(at(p, 20), at(q, 10)), list(p, move("a", "b")))
			check(list(with(add("c"), g), p), nil)
			check(nil, list(q, with(add("c"), h)))
			l := list(p, q)
			check(l, l[:0])
			check(l[:0], l)
			check(l[:1], l[1:])
		}
	}
	// A list that passes itself, or a piece of it.
	l := list(patch("a", 5, "x", "y z"), patch("b", 0, "", "x"), patch("c", 0, "", "y"))
	was := kept(l)
	if _, _, ok := Pass(l[:2], l[2:]); !ok || !equalLists(l, was) {
		t.Errorf("%v", l)
	}
	if ahead, behind, ok := Pass(l, l); ok || len(ahead) != 0 || len(behind) != 0 || !equalLists(l, was) {
		t.Errorf("%v: %v, %v, %v", l, ahead, behind, ok)
	}
	if !Same(l, l) || Same(l, l[:2]) {
		t.Error("a list and itself")
	}
	// A tree whose files have one list of lines, which a change has, too.
	x := api.Tree{{Name: "a", Lines: lines}, {Name: "b", Lines: lines[:2]}, {Name: "c", Lines: lines[:0]}}
	for _, l := range [][]api.Prim{nil, list(with(set("c", "", ""), api.Hunk{New: lines})), list(with(patch("b", 0, "", ""), api.Hunk{New: lines[2:]}), move("a", "d"))} {
		want, _ := toldApply(x, l)
		want = keptTree(want)
		got, e := Apply(x, l)
		if e != api.OK || !equalTrees(got, want) {
			t.Errorf("%v: %v, error %d", l, got, e)
		}
		for k := range got {
			spoilLines(got[k].Lines)
			if k+1 < len(got) && !equalTrees(got[k+1:], want[k+1:]) {
				t.Errorf("%v: file %d of what is answered shares lines with another one", l, k)
			}
		}
		if !slices.Equal(lines[:6], words("x y x y mark mark")) {
			t.Fatalf("%v: %q", l, lines[:6])
		}
	}
}

// R5: what is asked does not hang on what was asked ahead of it.
func TestAskedOnceMore(t *testing.T) {
	a, b := list(patch("a", 0, "", "x"), move("a", "b")), list(patch("b", 4, "y", ""))
	ask := func() string {
		return fmt.Sprint(Pass(a, b)) + fmt.Sprint(Pass(b, a)) + fmt.Sprint(Apply(api.Tree{file("a", "z")}, a)) + fmt.Sprint(Turn(a), Same(a, b), Same(a, a), May(a))
	}
	first := ask()
	want := "[{3 a  {3 [y] []}}] [{3 a  {0 [] [x]}} {2 a b {0 [] []}}] true" + "[] [] false" + "[{b [x z]}] 0" + "[{2 b a {0 [] []}} {3 a  {0 [x] []}}] false true true"
	if first != want {
		t.Errorf("%s, not %s", first, want)
	}
	Pass(a, list(add("c"), rm("b")))
	Pass(wrong(), fair())
	Apply(nil, fair())
	Turn(wrong())
	if again := ask(); again != first {
		t.Errorf("%s, and then %s", first, again)
	}
}

func FuzzFlow(f *testing.F) {
	f.Add([]byte{}, []byte{}, byte(0))
	f.Add([]byte{5, 0, 1, 2, 3, 4, 5, 6, 1, 0, 2}, []byte{5, 1, 9, 0, 20, 1}, byte(40))
	f.Add([]byte{0, 1, 9, 0, 1, 1, 5, 0, 1, 1, 30, 1, 2, 1, 1}, []byte{9, 0, 7, 1, 3, 0, 3, 0, 4, 1, 1, 1}, byte(20))
	f.Add([]byte{200, 17, 3, 255, 1, 90}, []byte{200, 11, 0, 3, 2, 1, 100, 4, 4}, byte(5))
	f.Fuzz(func(t *testing.T, one, other []byte, size byte) {
		start := api.Tree{{Name: "a", Lines: numbered(int(size))}, {Name: "c", Lines: numbered(int(size) / 3)}, {Name: "e"}}
		a, mid := story(start, min(8, len(one)), from(one))
		b, _ := story(mid, min(8, len(other)), from(other))
		check := func(a, b []api.Prim) {
			checkApply(t, start, slices.Concat(a, b))
			checkTurn(t, slices.Concat(a, b))
			checkPass(t, a, b)
			checkJoint(t, a, b)
			checkSame(t, start, a, b)
			checkOwnPass(t, a, b)
			checkOwnApply(t, start, slices.Concat(a, b))
			if l := slices.Concat(a, b); May(l) != !slices.ContainsFunc(l, func(p api.Prim) bool { return !prim.May(p) }) || Same(a, b) != equalLists(a, b) {
				t.Errorf("%v, %v: may be, or are the same", a, b)
			}
		}
		check(a, b)
		check(b, a)
		// One of b, and one of a, that is likely not to fit, or not to be.
		odd := api.Prim{Kind: int(size)%7 - 1, Name: words("a b c A")[size%4], To: words("a b c A")[len(one)%4], H: hunkOf(len(other)-1, "", "x")}
		check(a, append(slices.Clone(b), odd, add("f")))
		check(append(list(odd), a...), b)
	})
}

// from chooses by bytes, one by one; when there are none any more, it chooses 0.
func from(b []byte) func(int) int {
	return func(n int) int {
		if len(b) == 0 || n == 0 {
			return 0
		}
		k := int(b[0]) % n
		b = b[1:]
		return k
	}
}
