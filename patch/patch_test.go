package patch

import (
	"fmt"
	"math"
	"math/rand/v2"
	"slices"
	"strings"
	"testing"

	"quiltmaker/api"
	"quiltmaker/flow"
	"quiltmaker/prim"
)

const full = 1 << 20

// words is a list of the words of s.
func words(s string) []string { return strings.Fields(s) }

// of is n bytes of s, one behind the other; many a list of n lines s; numbered are n lines, no two of which are the same.
func of(n int, s string) string { return strings.Repeat(s, n) }

func many(n int, s string) []string { return slices.Repeat([]string{s}, n) }

func numbered(n int) []string {
	var l []string
	for k := range n {
		l = append(l, fmt.Sprint("l", k))
	}
	return l
}

// id is an id; ids are some, of a Who and a No each.
func id(who, no int) api.Id { return api.Id{Who: who, No: no} }

func ids(l ...int) []api.Id {
	var out []api.Id
	for k := 0; k+1 < len(l); k += 2 {
		out = append(out, id(l[k], l[k+1]))
	}
	return out
}

// counted are n ids of who, that rise, the first one with the No from.
func counted(n, who, from int) []api.Id {
	var out []api.Id
	for k := range n {
		out = append(out, id(who, from+k))
	}
	return out
}

// add, rm, move, put and set are changes of each kind, as they may be.
func add(name string) api.Prim { return api.Prim{Kind: 0, Name: name} }

func rm(name string) api.Prim { return api.Prim{Kind: 1, Name: name} }

func move(name, to string) api.Prim { return api.Prim{Kind: 2, Name: name, To: to} }

func put(name string, at int, old, now string) api.Prim {
	return api.Prim{Kind: 3, Name: name, H: api.Hunk{At: at, Old: words(old), New: words(now)}}
}

func set(name, old, now string) api.Prim {
	return api.Prim{Kind: 4, Name: name, H: api.Hunk{Old: words(old), New: words(now)}}
}

// with is p with another H.
func with(p api.Prim, h api.Hunk) api.Prim {
	p.H = h
	return p
}

// file is a file with lines; list are changes; story are patches, each of some changes.
func file(name, lines string) api.File { return api.File{Name: name, Lines: words(lines)} }

func list(l ...api.Prim) []api.Prim { return l }

func story(l ...[]api.Prim) []api.Named {
	var out []api.Named
	for k, changes := range l {
		out = append(out, api.Named{Id: id(k%8, k/8+1), Text: fmt.Sprint("t", k), L: changes})
	}
	return out
}

// all is a patch that has all that one can have.
func all() api.Named {
	return api.Named{Id: id(3, 5), Deps: ids(0, 1, 2, 7, 3, 4, 5, 1), Text: "some", L: list(add("a"), put("a", 0, "", "x y"), move("a", "b"), set("b", "x y", "z"))}
}

// showOne, show and showTree are all of what they are given; lists without elements are shown the same.
func showOne(p api.Prim) string {
	return fmt.Sprintf("%d %q %q %d %q %q\n", p.Kind, p.Name, p.To, p.H.At, append([]string{}, p.H.Old...), append([]string{}, p.H.New...))
}

func showList(l []api.Prim) string {
	s := fmt.Sprint(len(l), "\n")
	for _, p := range l {
		s += showOne(p)
	}
	return s
}

func show(p api.Named) string {
	return fmt.Sprintf("%d %d %v %q ", p.Id.Who, p.Id.No, append([]api.Id{}, p.Deps...), p.Text) + showList(p.L)
}

func showAll(l []api.Named) string {
	s := fmt.Sprint(len(l), "\n")
	for _, p := range l {
		s += show(p)
	}
	return s
}

func showTree(t api.Tree) string {
	s := ""
	for _, f := range t {
		s += fmt.Sprintf("%q %q\n", f.Name, append([]string{}, f.Lines...))
	}
	return s
}

// short is what is told of something in a test's log.
func short(x any) string {
	s := fmt.Sprint(x)
	if len(s) > 400 {
		s = s[:200] + " .. " + s[len(s)-200:]
	}
	return s
}

// copied is a patch once more; copiedAll are patches, copiedTree is a tree.
func copied(p api.Named) api.Named {
	p.Deps, p.L = slices.Clone(p.Deps), slices.Clone(p.L)
	for k, q := range p.L {
		p.L[k].H.Old, p.L[k].H.New = slices.Clone(q.H.Old), slices.Clone(q.H.New)
	}
	return p
}

func copiedAll(l []api.Named) []api.Named {
	l = slices.Clone(l)
	for k := range l {
		l[k] = copied(l[k])
	}
	return l
}

func copiedTree(t api.Tree) api.Tree {
	t = slices.Clone(t)
	for k := range t {
		t[k].Lines = slices.Clone(t[k].Lines)
	}
	return t
}

// toldLess is what P14.1 tells of Less: an id as two numbers, of which the first one counts first.
func toldLess(a, b api.Id) bool { return slices.Compare([]int{a.Who, a.No}, []int{b.Who, b.No}) < 0 }

// toldId is what P14.1 tells of an id.
func toldId(i api.Id) bool {
	return slices.Contains([]int{0, 1, 2, 3, 4, 5, 6, 7}, i.Who) && i.No > 0 && i.No < 1048577
}

// toldMay is what P14.1 tells of May, by whatever there is against it.
func toldMay(p api.Named) bool {
	against := len(p.Deps) > 60 || len(p.L) > 200 || len(p.Text) > 80 || strings.Contains(p.Text, "\n") || !toldId(p.Id)
	for k, d := range p.Deps {
		against = against || !toldId(d) || d == p.Id
		for _, later := range p.Deps[k+1:] {
			against = against || d == later || toldLess(later, d)
		}
	}
	for _, q := range p.L {
		against = against || !prim.May(q)
	}
	return !against
}

// toldAll is what P14.2 tells of All: those of the first patch, and then those of the others.
func toldAll(l []api.Named) []api.Prim {
	if len(l) == 0 {
		return nil
	}
	return slices.Concat(copied(l[0]).L, toldAll(l[1:]))
}

// toldApply is what P14.2 and P14.3 tell of Apply: change by change, patch by patch.
func toldApply(t api.Tree, l []api.Named) (api.Tree, api.Errno) {
	for _, p := range l {
		for _, q := range p.L {
			next, e := prim.Apply(t, q)
			if e != 0 {
				return nil, e
			}
			t = next
		}
	}
	return t, 0
}

// toldFind is what P14.2 tells of Find, from the last one on.
func toldFind(l []api.Named, i api.Id) int {
	found := -1
	for k := len(l) - 1; k >= 0; k-- {
		if l[k].Id.Who == i.Who && l[k].Id.No == i.No {
			found = k
		}
	}
	return found
}

// checkMay holds P14.1 of May.
func checkMay(t *testing.T, p api.Named) {
	t.Helper()
	if got, want := May(p), toldMay(p); got != want {
		t.Errorf("%s: may be: %v", short(p), got)
	}
}

// checkSame holds P14.1 of Same: two are the same just where they show the same.
func checkSame(t *testing.T, p, q api.Named) {
	t.Helper()
	if got, want := Same(p, q), show(p) == show(q); got != want {
		t.Errorf("%s, %s: the same: %v", short(p), short(q), got)
	}
}

// rises is whether the names of a tree do, none twice.
func rises(t api.Tree) bool {
	for k := range t {
		if k > 0 && t[k-1].Name >= t[k].Name {
			return false
		}
	}
	return true
}

// checkApply holds P14.2, P14.3 and R4, wherever the patches are cut; and that what patches change is changed back. It tells whether they can be done.
func checkApply(t *testing.T, x api.Tree, l []api.Named) bool {
	t.Helper()
	changes := toldAll(l)
	if got := All(l); showList(got) != showList(changes) {
		t.Errorf("%s: all %s, not %s", short(l), short(got), short(changes))
	}
	got, e := Apply(x, l)
	want, we := toldApply(x, l)
	if e != we || showTree(got) != showTree(want) {
		t.Errorf("%s, %s: %s, error %d, not %s, error %d", short(x), short(l), short(got), e, short(want), we)
	}
	if asOne, oe := Apply(x, []api.Named{{L: changes}}); oe != we || showTree(asOne) != showTree(want) {
		t.Errorf("%s, %s, as one patch: %s, error %d", short(x), short(l), short(asOne), oe)
	}
	for k := range len(l) + 1 {
		end, ee := Apply(x, l[:k])
		if ee == api.OK {
			end, ee = Apply(end, l[k:])
		}
		if ee != we || showTree(end) != showTree(want) {
			t.Errorf("%s, %s, cut at %d: %s, error %d", short(x), short(l), k, short(end), ee)
		}
	}
	if we != 0 {
		return false
	}
	back, be := Apply(got, []api.Named{{L: flow.Turn(changes)}})
	if rises(x) && (be != 0 || showTree(back) != showTree(x)) {
		t.Errorf("%s, %s: changed back %s, error %d", short(x), short(l), short(back), be)
	}
	return true
}

// wrong are changes that may not be: each for one thing alone, or for more.
func wrong() []api.Prim {
	return list(
		api.Prim{}, api.Prim{Kind: -1, Name: "a"}, api.Prim{Kind: 5, Name: "a"}, api.Prim{Kind: math.MinInt, Name: "a"}, api.Prim{Kind: math.MaxInt, Name: "a", To: "b"},
		add("A"), add(of(17, "a")), with(add("a"), api.Hunk{New: words("x")}), rm("a b"), with(rm("a"), api.Hunk{At: 1}),
		move("a", ""), move("a", "a"), move("", "b"), with(move("a", "b"), api.Hunk{Old: words("x")}),
		put("", 0, "", "x"), put("a", -1, "", "x"), put("a", full+1, "", "x"), put("a", math.MaxInt, "x", ""),
		with(put("a", 0, "", ""), api.Hunk{Old: []string{"\n"}}), with(put("a", 0, "", ""), api.Hunk{New: []string{of(81, "x")}}), with(put("a", 0, "", ""), api.Hunk{New: many(201, "x")}),
		set("", "", "x"), with(set("a", "", ""), api.Hunk{At: 1, New: words("x")}), with(set("a", "", ""), api.Hunk{Old: many(201, "x")}),
	)
}

// fair are changes of each kind that may be; which name a, b and c.
func fair() []api.Prim {
	return list(
		add("a"), add("b"), rm("a"), rm("b"), move("a", "b"), move("b", "c"), put("a", 0, "", "x"), put("a", 0, "x", ""), put("b", 1, "y", "z"), put("b", 0, "", "x y"),
		set("a", "", "x"), set("b", "x y", ""),
	)
}

// The chapter's example: the patch 1 of 0, without Deps, that adds a, may be.
func TestExample(t *testing.T) {
	p := api.Named{Id: id(0, 1), L: list(add("a"))}
	if !May(p) {
		t.Error("may not be")
	}
	if got, e := Apply(nil, []api.Named{p}); e != api.OK || showTree(got) != "\"a\" []\n" {
		t.Errorf("%v, error %d", got, e)
	}
}

// P14.1: Less, whichever of both stands first.
func TestLess(t *testing.T) {
	for _, x := range []struct {
		a, b      api.Id
		less, too bool
	}{
		// The same Who, other Nos.
		{id(1, 1), id(1, 2), true, false},
		{id(0, 1), id(0, full), true, false},
		{id(7, 9), id(7, 10), true, false},
		// Other Whos, the same No.
		{id(0, 1), id(1, 1), true, false},
		{id(0, 5), id(7, 5), true, false},
		{id(3, full), id(4, full), true, false},
		// The same twice.
		{id(1, 1), id(1, 1), false, false},
		{id(0, 0), id(0, 0), false, false},
		{id(7, full), id(7, full), false, false},
		// Who counts ahead of No.
		{id(0, 9), id(1, 1), true, false},
		{id(0, full), id(7, 1), true, false},
		{id(1, 2), id(2, 1), true, false},
		{id(1, 1), id(2, 2), true, false},
		// Such as may not be are ordered, too; no difference of theirs wraps around.
		{id(-1, 5), id(0, 1), true, false},
		{id(0, -1), id(0, 0), true, false},
		{id(8, 0), id(9, -1), true, false},
		{id(math.MinInt, 0), id(math.MaxInt, 0), true, false},
		{id(math.MinInt, 0), id(1, 0), true, false},
		{id(0, math.MinInt), id(0, math.MaxInt), true, false},
		{id(0, math.MinInt), id(0, 1), true, false},
		{id(-2, math.MaxInt), id(math.MaxInt, math.MinInt), true, false},
	} {
		if Less(x.a, x.b) != x.less || Less(x.b, x.a) != x.too {
			t.Errorf("%v, %v: %v, %v", x.a, x.b, Less(x.a, x.b), Less(x.b, x.a))
		}
	}
}

// P14.1: Less, all pairs: just one of a less, the same and b less.
func TestLessAll(t *testing.T) {
	var some []api.Id
	for _, who := range []int{math.MinInt, -8, -1, 0, 1, 2, 6, 7, 8, 1 << 32, math.MaxInt} {
		for _, no := range []int{math.MinInt, -full, -1, 0, 1, 2, 3, full - 1, full, full + 1, 1 << 40, math.MaxInt} {
			some = append(some, id(who, no))
		}
	}
	for i, a := range some {
		for j, b := range some {
			if Less(a, b) != toldLess(a, b) || Less(a, b) != (i < j) {
				t.Errorf("%v, %v: less: %v", a, b, Less(a, b))
			}
		}
	}
}

// P14.1: May, patches as they are everyday, and at the limits.
func TestMay(t *testing.T) {
	for k, p := range []api.Named{
		all(),
		{Id: id(0, 1)},
		{Id: id(0, 1), L: list(add("a"))},
		{Id: id(7, full), Deps: ids(7, full-1), Text: "some", L: fair()},
		{Id: id(2, 3), Deps: ids(2, 4), Text: of(80, "x")},
		{Id: id(2, 3), Deps: ids(0, 1, 0, 2, 1, 1, 2, 2, 2, 4, 7, 1)},
		// Deps may be later ones of the same Who, and need not be there.
		{Id: id(0, 1), Deps: ids(0, 2, 0, full)},
		// Changes need not fit, nor be others.
		{Id: id(1, 1), L: list(add("a"), add("a"), rm("c"), put("b", full, "x", ""), put("a", 0, "", ""))},
		{Id: id(7, full), Deps: counted(60, 7, full-60), Text: of(80, "\xff"), L: slices.Repeat(list(add("a"), with(set("a", "", ""), api.Hunk{Old: many(200, of(80, "x")), New: many(200, of(80, "y"))})), 100)},
	} {
		if !May(p) {
			t.Errorf("patch %d may not be", k)
		}
		checkMay(t, p)
	}
	if May(api.Named{}) {
		t.Error("noughts may be")
	}
}

// P14.1: the Id, and no other thing.
func TestMayId(t *testing.T) {
	for _, x := range []struct {
		id  api.Id
		may bool
	}{
		{id(-1, 1), false}, {id(0, 1), true}, {id(1, 1), true}, {id(6, 1), true}, {id(7, 1), true}, {id(8, 1), false}, {id(9, 1), false},
		{id(3, -1), false}, {id(3, 0), false}, {id(3, 1), true}, {id(3, 2), true}, {id(3, full-1), true}, {id(3, full), true}, {id(3, full+1), false},
		{id(0, 0), false}, {id(0, full), true}, {id(7, full), true}, {id(7, 0), false}, {id(7, full+1), false}, {id(8, 0), false}, {id(-1, full+1), false}, {id(1, 7), true}, {id(7, 8), true}, {id(8, 7), false},
		{id(math.MinInt, 1), false}, {id(math.MaxInt, 1), false}, {id(1, math.MinInt), false}, {id(1, math.MaxInt), false}, {id(math.MaxInt, math.MinInt), false},
		{id(1<<32, 1), false}, {id(1, 1<<32+1), false}, {id(-1<<32, 1), false}, {id(1, 1-1<<32), false}, {id(8, full), false}, {id(256, 1), false},
	} {
		for _, p := range []api.Named{{Id: x.id}, {Id: x.id, Deps: ids(0, 50, 5, 60), Text: "t", L: fair()}} {
			if May(p) != x.may {
				t.Errorf("%v: may be: %v", short(p), !x.may)
			}
			checkMay(t, p)
		}
	}
}

// P14.1: an id that may not be among Deps, as the first one, as one between, as the last one, alone; where it can, such that they rise all the same.
func TestMayIdOfDeps(t *testing.T) {
	own := id(4, 44)
	for _, x := range []struct {
		deps []api.Id
		may  bool
	}{
		// Whos.
		{ids(-1, 1), false}, {ids(0, 1), true}, {ids(7, 1), true}, {ids(8, 1), false},
		{ids(-1, 9, 0, 1, 7, 1), false}, {ids(0, 1, 1, 1, 7, 1), true}, {ids(0, 1, 7, 1, 8, 1), false}, {ids(0, 1, 8, 1, 9, 1), false}, {ids(-2, 1, -1, 1, 0, 1), false}, {ids(8, 1, 8, 2, 8, 3), false},
		{ids(0, 1, -1, 1, 2, 1), false}, {ids(0, 1, 8, 1, 2, 1), false}, {ids(math.MinInt, 1, 0, 1), false}, {ids(0, 1, math.MaxInt, 1), false}, {ids(1<<32, 1), false}, {ids(-1<<32, 1), false},
		// Nos: these may be the first one, one between, the last one of such as rise.
		{ids(0, 0), false}, {ids(0, full), true}, {ids(0, full+1), false}, {ids(0, 2), true}, {ids(0, -1), false},
		{ids(0, 0, 0, 1, 0, 2), false}, {ids(0, 0, 1, 1, 2, 1), false}, {ids(0, 1, 1, 0, 2, 1), false}, {ids(0, 1, 1, 1, 2, 0), false}, {ids(5, 0, 6, 1, 7, 1), false},
		{ids(0, full, 1, 1, 2, 1), true}, {ids(0, 1, 1, full, 2, 1), true}, {ids(0, 1, 1, 1, 2, full), true},
		{ids(0, full+1, 1, 1, 2, 1), false}, {ids(0, 1, 1, full+1, 2, 1), false}, {ids(0, 1, 1, 1, 2, full+1), false}, {ids(0, 1, 1, full, 1, full+1), false},
		{ids(0, math.MinInt, 1, 1), false}, {ids(0, 1, 1, math.MinInt, 2, 1), false}, {ids(0, 1, 1, math.MaxInt, 2, 1), false}, {ids(0, 1, 1, math.MaxInt), false}, {ids(0, 1<<32+1), false},
	} {
		if p := (api.Named{Id: own, Deps: x.deps}); May(p) != x.may {
			t.Errorf("%v: may be: %v", x.deps, !x.may)
		} else {
			checkMay(t, p)
		}
	}
	// In each place of many.
	for k := range 60 {
		for _, bad := range ids(-1, 1, 8, 1, 0, 0, 7, full+1, math.MaxInt, math.MinInt) {
			l := counted(60, 2, 100)
			if l[k] = bad; May(api.Named{Id: own, Deps: l}) {
				t.Errorf("%v in place %d may be", bad, k)
			}
		}
		// Between one of a lower Who, and one of a higher one, a No may be whatever it is for rising.
		for _, no := range []int{math.MinInt, -1, 0, 1, 2, full, full + 1, math.MaxInt} {
			l := slices.Concat(counted(k, 1, 7), ids(2, no), counted(59-k, 3, 1))
			if May(api.Named{Id: own, Deps: l}) != (1 <= no && no <= full) {
				t.Errorf("the No %d in place %d: may be: %v", no, k, no < 1 || no > full)
			}
		}
	}
}

// P14.1, R6: Deps that rise or not, none twice, none the Id itself, not more than 60.
func TestMayDeps(t *testing.T) {
	own := id(3, 5)
	for _, x := range []struct {
		deps []api.Id
		may  bool
	}{
		{nil, true}, {[]api.Id{}, true}, {make([]api.Id, 0, 3), true}, {ids(1, 1), true},
		// They rise, or don't, at the beginning, in the middle, at the end.
		{ids(0, 1, 0, 2), true}, {ids(0, 2, 0, 1), false}, {ids(0, 1, 1, 1), true}, {ids(1, 1, 0, 1), false}, {ids(1, 1, 0, 2), false}, {ids(0, 2, 1, 1), true},
		{ids(0, 1, 0, 3, 1, 1, 2, 1), true}, {ids(0, 3, 0, 1, 1, 1, 2, 1), false}, {ids(0, 1, 1, 1, 0, 3, 2, 1), false}, {ids(0, 1, 0, 3, 2, 1, 1, 1), false}, {ids(2, 1, 1, 1, 0, 3, 0, 1), false},
		{ids(2, 1, 0, 1, 0, 3, 1, 1), false}, {ids(0, 3, 1, 1, 2, 1, 0, 1), false},
		// One twice, side by side and apart.
		{ids(0, 1, 0, 1), false}, {ids(0, 1, 0, 1, 0, 2, 0, 3), false}, {ids(0, 1, 0, 2, 0, 2, 0, 3), false}, {ids(0, 1, 0, 2, 0, 3, 0, 3), false},
		{ids(0, 1, 0, 2, 0, 1), false}, {ids(0, 1, 0, 2, 0, 3, 0, 1), false}, {ids(0, 1, 0, 2, 0, 3, 0, 2), false}, {ids(7, 1, 7, 1), false}, {ids(0, 1, 0, 1, 0, 1), false},
		// The Id itself, alone, at the beginning, in the middle, at the end; and the ones beside it.
		{ids(3, 5), false}, {ids(3, 5, 4, 1, 5, 1), false}, {ids(3, 4, 3, 5, 3, 6), false}, {ids(0, 1, 1, 1, 3, 5), false}, {ids(0, 1, 3, 5), false}, {ids(3, 5, 3, 6), false},
		{ids(3, 4), true}, {ids(3, 6), true}, {ids(3, 4, 3, 6), true}, {ids(2, 5, 4, 5), true}, {ids(5, 3), true}, {ids(3, 5, 3, 5), false},
		// How many.
		{counted(59, 1, 1), true}, {counted(60, 1, 1), true}, {counted(61, 1, 1), false}, {counted(62, 1, 1), false}, {counted(120, 1, 1), false}, {counted(60, 3, 6), true}, {counted(60, 3, 5), false},
		{slices.Concat(counted(30, 1, 1), counted(30, 2, 1)), true}, {slices.Concat(counted(30, 1, 1), counted(31, 2, 1)), false}, {slices.Concat(counted(8, 1, 1), counted(52, 5, full-51)), true},
	} {
		if p := (api.Named{Id: own, Deps: x.deps, L: fair()}); May(p) != x.may {
			t.Errorf("%v: may be: %v", x.deps, !x.may)
		} else {
			checkMay(t, p)
		}
	}
	// One of 60 that is the Id, or the same as the one ahead of it, or as the first one, or less than that: in each place.
	for k := range 60 {
		l := counted(60, 1, 11)
		if May(api.Named{Id: l[k], Deps: l}) {
			t.Errorf("the Id itself may be among Deps, in place %d", k)
		}
		if l[k] = id(1, 11+max(0, k-1)); k > 0 && May(api.Named{Id: own, Deps: l}) {
			t.Errorf("one may come twice, in places %d and %d", k-1, k)
		}
		if l[k] = l[0]; k > 0 && May(api.Named{Id: own, Deps: l}) {
			t.Errorf("one may come twice, in places 0 and %d", k)
		}
		if l[k] = id(0, 99); k > 0 && May(api.Named{Id: own, Deps: l}) {
			t.Errorf("they need not rise, in place %d", k)
		}
	}
}

// P14.1: the Text is a line.
func TestMayText(t *testing.T) {
	for _, x := range []struct {
		text string
		may  bool
	}{
		{"", true}, {"a", true}, {"some text, with blanks", true}, {of(79, "x"), true}, {of(80, "x"), true}, {of(81, "x"), false}, {of(1000, "x"), false},
		{"\n", false}, {"a\n", false}, {"\na", false}, {"a\nb", false}, {of(40, "x") + "\n" + of(39, "x"), false}, {of(79, "x") + "\n", false}, {"\n" + of(79, "x"), false}, {of(80, "\n"), false},
		// Bytes count, and all others may be.
		{of(40, "ä"), true}, {of(40, "ä") + "x", false}, {"\x00\r\t\v\xff\xfe", true}, {of(80, "\x00"), true}, {"\u2028\u0085", true},
	} {
		for _, p := range []api.Named{{Id: id(0, 1), Text: x.text}, {Id: id(2, 2), Deps: ids(1, 1), Text: x.text, L: fair()}} {
			if May(p) != x.may {
				t.Errorf("%q: may be: %v", x.text, !x.may)
			}
			checkMay(t, p)
		}
	}
}

// P14.1, R6: none to 200 changes, each of which may be, in each place.
func TestMayChanges(t *testing.T) {
	may := func(l []api.Prim) bool { return May(api.Named{Id: id(0, 1), L: l}) }
	for _, x := range []struct {
		l   []api.Prim
		may bool
	}{
		{nil, true}, {list(), true}, {make([]api.Prim, 0, 3), true}, {list(add("a")), true}, {fair(), true},
		{slices.Repeat(list(add("a")), 199), true}, {slices.Repeat(list(add("a")), 200), true}, {slices.Repeat(list(add("a")), 201), false}, {slices.Repeat(fair(), 100), false},
		{make([]api.Prim, 1), false}, {make([]api.Prim, 200), false},
	} {
		if may(x.l) != x.may {
			t.Errorf("%d changes: may be: %v", len(x.l), !x.may)
		}
		checkMay(t, api.Named{Id: id(0, 1), L: x.l})
	}
	for _, p := range fair() {
		if !may(list(p)) || !may(list(p, p)) {
			t.Errorf("%v may not be", p)
		}
	}
	for _, p := range wrong() {
		if may(list(p)) {
			t.Errorf("%v may be", short(p))
		}
		for k := range len(fair()) + 1 {
			if may(slices.Insert(fair(), k, p)) {
				t.Errorf("%v may be, in place %d", short(p), k)
			}
		}
	}
	for k := range 200 {
		l := slices.Repeat(list(add("a")), 200)
		if l[k] = add(""); may(l) {
			t.Errorf("one that may not be may be in place %d of 200", k)
		}
	}
}

// P14.1: May, whatever is wrong with whatever.
func TestMayAllSmall(t *testing.T) {
	var deps [][]api.Id
	some := ids(-1, 1, 0, 0, 0, 1, 0, 2, 1, 1, 7, full, 8, 1)
	for _, a := range some {
		deps = append(deps, []api.Id{a})
		for _, b := range some {
			deps = append(deps, []api.Id{a, b})
			for _, c := range some {
				deps = append(deps, []api.Id{a, b, c})
			}
		}
	}
	deps = append(deps, nil, []api.Id{}, counted(60, 1, 1), counted(61, 1, 1))
	may := 0
	for _, i := range append(some, ids(0, full+1, 5, 5, 1, 30)...) {
		for _, d := range deps {
			for _, s := range []string{"", "t", of(81, "t"), "t\n"} {
				for _, l := range [][]api.Prim{nil, list(add("a")), list(add("A")), list(move("a", "b"), add("")), slices.Repeat(list(rm("a")), 201)} {
					p := api.Named{Id: i, Deps: d, Text: s, L: l}
					checkMay(t, p)
					if May(p) {
						may++
					}
				}
			}
		}
	}
	if may < 200 {
		t.Errorf("only %d may be", may)
	}
}

// others are patches that differ from all() in just one thing.
func others() map[string]func(p *api.Named) {
	return map[string]func(p *api.Named){
		"Who":                          func(p *api.Named) { p.Id.Who++ },
		"No":                           func(p *api.Named) { p.Id.No-- },
		"Who and No the other way":     func(p *api.Named) { p.Id.Who, p.Id.No = p.Id.No, p.Id.Who },
		"no Deps":                      func(p *api.Named) { p.Deps = nil },
		"one of Deps less, the first":  func(p *api.Named) { p.Deps = p.Deps[1:] },
		"one of Deps less, between":    func(p *api.Named) { p.Deps = slices.Delete(p.Deps, 1, 2) },
		"one of Deps less, the last":   func(p *api.Named) { p.Deps = p.Deps[:3] },
		"one of Deps more, in front":   func(p *api.Named) { p.Deps = slices.Insert(p.Deps, 0, id(0, 0)) },
		"one of Deps more, behind":     func(p *api.Named) { p.Deps = append(p.Deps, id(6, 1)) },
		"one of Deps more, noughts":    func(p *api.Named) { p.Deps = append(p.Deps, api.Id{}) },
		"the last of Deps once more":   func(p *api.Named) { p.Deps = append(p.Deps, p.Deps[3]) },
		"Who of the first of Deps":     func(p *api.Named) { p.Deps[0].Who++ },
		"No of the first of Deps":      func(p *api.Named) { p.Deps[0].No++ },
		"Who of one of Deps, between":  func(p *api.Named) { p.Deps[1].Who-- },
		"No of one of Deps, between":   func(p *api.Named) { p.Deps[2].No-- },
		"Who of the last of Deps":      func(p *api.Named) { p.Deps[3].Who++ },
		"No of the last of Deps":       func(p *api.Named) { p.Deps[3].No++ },
		"the first of Deps twice":      func(p *api.Named) { p.Deps[1] = p.Deps[0] },
		"Deps in another order":        func(p *api.Named) { slices.Reverse(p.Deps) },
		"Deps in another order, first": func(p *api.Named) { p.Deps[0], p.Deps[1] = p.Deps[1], p.Deps[0] },
		"Deps in another order, last":  func(p *api.Named) { p.Deps[2], p.Deps[3] = p.Deps[3], p.Deps[2] },
		"no Text":                      func(p *api.Named) { p.Text = "" },
		"Text longer":                  func(p *api.Named) { p.Text += " " },
		"Text shorter":                 func(p *api.Named) { p.Text = p.Text[:3] },
		"Text as long":                 func(p *api.Named) { p.Text = "sums" },
		"Text in capitals":             func(p *api.Named) { p.Text = "Some" },
		"no changes":                   func(p *api.Named) { p.L = nil },
		"a change less, the first":     func(p *api.Named) { p.L = p.L[1:] },
		"a change less, between":       func(p *api.Named) { p.L = slices.Delete(p.L, 1, 2) },
		"a change less, the last":      func(p *api.Named) { p.L = p.L[:3] },
		"a change more, in front":      func(p *api.Named) { p.L = slices.Insert(p.L, 0, add("a")) },
		"a change more, behind":        func(p *api.Named) { p.L = append(p.L, rm("b")) },
		"a change more, noughts":       func(p *api.Named) { p.L = append(p.L, api.Prim{}) },
		"changes in another order":     func(p *api.Named) { p.L[0], p.L[1] = p.L[1], p.L[0] },
		"changes turned about":         func(p *api.Named) { slices.Reverse(p.L) },
		"Kind of the first change":     func(p *api.Named) { p.L[0].Kind = 1 },
		"Name of the first change":     func(p *api.Named) { p.L[0].Name = "c" },
		"At of a change":               func(p *api.Named) { p.L[1].H.At++ },
		"Old of a change":              func(p *api.Named) { p.L[1].H.Old = words("y") },
		"New of a change":              func(p *api.Named) { p.L[1].H.New = words("x z") },
		"a line of a change less":      func(p *api.Named) { p.L[1].H.New = words("x") },
		"a line of a change more":      func(p *api.Named) { p.L[1].H.New = words("x y y") },
		"To of a change":               func(p *api.Named) { p.L[2].To = "c" },
		"Old of the last change":       func(p *api.Named) { p.L[3].H.Old = words("y x") },
		"New of the last change":       func(p *api.Named) { p.L[3].H.New = nil },
		"a line empty, or none":        func(p *api.Named) { p.L[0].H.New = []string{""} },
	}
}

// P14.1: Same, patches that differ in one thing alone.
func TestSame(t *testing.T) {
	if !Same(all(), all()) {
		t.Error("two are not the same")
	}
	for what, change := range others() {
		p := copied(all())
		change(&p)
		if Same(p, all()) || Same(all(), p) || !Same(p, p) || !Same(p, copied(p)) {
			t.Errorf("%s: %v", what, p)
		}
		checkSame(t, p, all())
		checkSame(t, p, api.Named{})
		for also, another := range others() {
			q := copied(all())
			another(&q)
			if Same(p, q) != (show(p) == show(q)) {
				t.Errorf("%s, and %s: the same: %v", what, also, Same(p, q))
			}
		}
	}
	// Of Deps and of changes, one's front the other.
	for k := range 4 {
		p, q := all(), all()
		p.Deps, q.L = p.Deps[:k], q.L[:k]
		if Same(p, all()) || Same(all(), p) || Same(q, all()) || Same(all(), q) || Same(p, q) {
			t.Errorf("the first %d", k)
		}
	}
}

// P14.1, R6: without elements, lists may be nil or empty; such as may not be are the same as themselves, too.
func TestSameNothing(t *testing.T) {
	var nothings []api.Named
	for _, deps := range [][]api.Id{nil, {}, make([]api.Id, 0, 3)} {
		for _, l := range [][]api.Prim{nil, {}, make([]api.Prim, 0, 3)} {
			nothings = append(nothings, api.Named{Id: id(1, 2), Deps: deps, Text: "t", L: l})
		}
	}
	for _, p := range nothings {
		if !May(p) {
			t.Errorf("%#v may not be", p)
		}
		for _, q := range nothings {
			if !Same(p, q) {
				t.Errorf("%#v, %#v: not the same", p, q)
			}
		}
	}
	p, q := api.Named{L: list(set("a", "", ""))}, api.Named{L: list(with(set("a", "", ""), api.Hunk{Old: []string{}, New: []string{}}))}
	if !Same(p, q) || !Same(api.Named{}, api.Named{}) {
		t.Error("without lines, or noughts: not the same")
	}
	for _, a := range wrong() {
		for _, b := range append(wrong(), fair()...) {
			checkSame(t, api.Named{Id: id(-1, 0), L: list(a)}, api.Named{Id: id(-1, 0), L: list(b)})
		}
	}
}

// P14.1: Same, all pairs of some patches.
func TestSameAllSmall(t *testing.T) {
	var some []api.Named
	for _, i := range ids(0, 1, 0, 2, 1, 1) {
		for _, d := range [][]api.Id{nil, ids(0, 1), ids(1, 0), ids(0, 1, 0, 2), ids(0, 2, 0, 1)} {
			for _, s := range []string{"", "t", "u"} {
				for _, l := range [][]api.Prim{nil, list(add("a")), list(add("b")), list(add("a"), add("b")), list(add("b"), add("a")), list(put("a", 0, "", "x"))} {
					some = append(some, api.Named{Id: i, Deps: d, Text: s, L: l})
				}
			}
		}
	}
	for i, p := range some {
		for j, q := range some {
			if Same(p, q) != (i == j) {
				t.Errorf("%v, %v: the same: %v", p, q, i != j)
			}
		}
	}
}

// P14.2, P14.3: patches that can be done.
func TestApply(t *testing.T) {
	for _, x := range []struct {
		from api.Tree
		l    []api.Named
		want api.Tree
	}{
		{nil, story(list(add("a")), list(put("a", 0, "", "x"))), api.Tree{file("a", "x")}},
		{nil, story(list(add("a"), put("a", 0, "", "x y")), list(add("b")), list(put("a", 1, "y", "z"), move("b", "c"))), api.Tree{file("a", "x z"), file("c", "")}},
		{api.Tree{file("a", "x")}, story(list(move("a", "b")), list(add("a")), list(set("b", "x", "y")), list(rm("a"))), api.Tree{file("b", "y")}},
		{api.Tree{file("a", "x y")}, story(list(put("a", 0, "x y", ""), rm("a"))), nil},
		// One that another one takes back.
		{api.Tree{file("a", "x")}, story(list(put("a", 1, "", "y")), list(put("a", 1, "y", ""))), api.Tree{file("a", "x")}},
		// Patches without changes: alone, at the beginning, in the middle, at the end, all.
		{api.Tree{file("a", "x")}, story(nil), api.Tree{file("a", "x")}},
		{nil, story(nil, list(add("a")), list(add("b"))), api.Tree{file("a", ""), file("b", "")}},
		{nil, story(list(add("a")), nil, list(add("b"))), api.Tree{file("a", ""), file("b", "")}},
		{nil, story(list(add("a")), list(add("b")), list()), api.Tree{file("a", ""), file("b", "")}},
		{nil, story(nil, list(), nil), nil},
		// No patches: the tree stays, whatever it is.
		{nil, nil, nil},
		{api.Tree{file("a", "x"), file("b", "")}, nil, api.Tree{file("a", "x"), file("b", "")}},
		{api.Tree{file("a", "x"), file("b", "")}, []api.Named{}, api.Tree{file("a", "x"), file("b", "")}},
		{api.Tree{{Name: "B\n", Lines: []string{"x\n", of(81, "x")}}, file("A", "")}, nil, api.Tree{{Name: "B\n", Lines: []string{"x\n", of(81, "x")}}, file("A", "")}},
		// Whether a patch may be is all the same, as long as its changes may: one id, and one that may not be, Deps that are not there, a Text that is no line.
		{nil, []api.Named{{L: list(add("a"))}, {L: list(put("a", 0, "", "x"))}}, api.Tree{file("a", "x")}},
		{nil, []api.Named{{Id: id(-1, full+1), Deps: ids(9, 9, 1, 1, 1, 1, -1, full+1), Text: "\n" + of(99, "x"), L: list(add("a"))}}, api.Tree{file("a", "")}},
		{nil, []api.Named{{L: append(list(add("a")), slices.Repeat(list(put("a", 0, "", "x")), 300)...)}}, api.Tree{{Name: "a", Lines: many(300, "x")}}},
	} {
		if got, e := Apply(x.from, x.l); e != api.OK || showTree(got) != showTree(x.want) {
			t.Errorf("%s, %s: %s, error %d", short(x.from), short(x.l), short(got), e)
		}
		checkApply(t, x.from, x.l)
	}
}

// P14.2, R2, R4: the first error, of both that there are, wherever it is, and no tree.
func TestApplyErrors(t *testing.T) {
	hangs, bad := list(put("z", 0, "", "x")), list(move("a", "a"))
	fits := [][]api.Prim{list(add("a")), list(put("a", 0, "", "x"), add("b")), nil, list(move("b", "c"), set("a", "x", "y"))}
	check := func(l []api.Named, want api.Errno) {
		t.Helper()
		for _, from := range []api.Tree{nil, {file("k", "x y")}} {
			if got, e := Apply(from, l); e != want || len(got) != 0 {
				t.Errorf("%v, %s: %v, error %d, not %d", from, short(l), got, e, want)
			}
			checkApply(t, from, l)
		}
	}
	for _, x := range []struct {
		one, other  []api.Prim
		first, last api.Errno
	}{{hangs, bad, 5, 1}, {bad, hangs, 1, 5}} {
		check(story(x.one), x.first)
		check(story(x.one, x.other), x.first)
		check(story(slices.Concat(x.one, x.other)), x.first)
		for k := range len(fits) + 1 {
			one := slices.Insert(slices.Clone(fits), k, x.one)
			check(story(one...), x.first)
			check(story(append(slices.Clone(one), x.other)...), x.first)
			check(story(append([][]api.Prim{x.other}, one...)...), x.last)
			// As the last change of a patch that otherwise can be done, and as the first one.
			check(story(slices.Insert(slices.Clone(fits), k, slices.Concat(list(add("v"), add("w")), x.one))...), x.first)
			check(story(slices.Insert(slices.Clone(fits), k, slices.Concat(x.one, list(add("v"), add("w"))))...), x.first)
			check(story(slices.Insert(slices.Clone(fits), k, slices.Concat(list(add("v")), x.one, list(add("w"))))...), x.first)
		}
	}
	// The other way round, or twice, they don't fit.
	check(story(list(put("a", 0, "", "x")), list(add("a"))), api.ErrApply)
	check(story(list(add("a")), list(add("a"))), api.ErrApply)
	check(story(list(add("a")), list(set("a", "", "x")), list(rm("a"))), api.ErrApply)
	check(story(list(add("a")), list(add("b")), list(move("a", "b"))), api.ErrApply)
	check(story(list(add("a")), list(put("a", 1, "", "x"))), api.ErrApply)
	check(story(list(add("a")), list(set("a", "x", ""))), api.ErrApply)
	// Each change that may not be, in each patch.
	for _, p := range wrong() {
		for k := range len(fits) + 1 {
			check(story(slices.Insert(slices.Clone(fits), k, list(p))...), api.ErrArg)
		}
	}
}

// P14.2, P14.3: all lists of at most three changes, cut into patches wherever they can be, on some trees.
func TestApplyAllSmall(t *testing.T) {
	done := 0
	for _, x := range []api.Tree{nil, {file("a", "x")}, {file("a", ""), file("b", "x y")}, {file("b", "x y"), file("a", "x")}} {
		for _, p := range fair() {
			for _, q := range fair() {
				for _, r := range append(fair(), api.Prim{}) {
					for _, l := range [][]api.Named{story(list(p, q, r)), story(list(p), list(q, r)), story(list(p, q), list(r)), story(list(p), list(q), list(r)), story(nil, list(p), nil, list(q), list(r), nil)} {
						if checkApply(t, x, l) {
							done++
						}
					}
				}
			}
		}
	}
	if done < 500 {
		t.Errorf("only %d can be done", done)
	}
}

// P14.2: how many patches there are is not bounded, nor how many changes come of them, nor what they make.
func TestApplyMany(t *testing.T) {
	var l []api.Named
	var want api.Tree
	for k := range 70 {
		name := fmt.Sprintf("f%03d", k)
		l = append(l, api.Named{Id: id(0, k+1), L: list(add(name), with(set(name, "", ""), api.Hunk{New: many(200, "x")}), put(name, 200, "", "y"), put(name, 0, "", "z"))})
		want = append(want, api.File{Name: name, Lines: slices.Concat(words("z"), many(200, "x"), words("y"))})
	}
	got, e := Apply(nil, l)
	if e != api.OK || showTree(got) != showTree(want) {
		t.Errorf("%d files, error %d", len(got), e)
	}
	if changes := All(l); len(changes) != 280 || showList(changes) != showList(toldAll(l)) {
		t.Errorf("%d changes", len(changes))
	}
	if Find(l, id(0, 70)) != 69 {
		t.Errorf("the last one is %d", Find(l, id(0, 70)))
	}
}

// P14.2: all changes, one behind the other, as they are.
func TestAll(t *testing.T) {
	for _, x := range []struct {
		l    []api.Named
		want []api.Prim
	}{
		{nil, nil},
		{[]api.Named{}, nil},
		{story(nil), nil},
		{story(nil, list(), nil), nil},
		{story(list(add("a"))), list(add("a"))},
		{story(list(add("a")), list(put("a", 0, "", "x"))), list(add("a"), put("a", 0, "", "x"))},
		{story(list(add("a"), add("b")), nil, list(add("c"), rm("b"), rm("a")), nil), list(add("a"), add("b"), add("c"), rm("b"), rm("a"))},
		{story(nil, list(put("a", 3, "x y", "z"))), list(put("a", 3, "x y", "z"))},
		// Neither are those that undo one another left out, nor such as come twice, or may not be.
		{story(list(add("a")), list(rm("a")), list(put("a", 1, "x", "x"))), list(add("a"), rm("a"), put("a", 1, "x", "x"))},
		{story(list(add("a")), list(add("a"))), list(add("a"), add("a"))},
		{story(wrong(), fair(), wrong()), slices.Concat(wrong(), fair(), wrong())},
		{[]api.Named{all(), all()}, append(all().L, all().L...)},
		{[]api.Named{{Id: id(-1, -1), L: list(api.Prim{})}}, list(api.Prim{})},
	} {
		if got := All(x.l); showList(got) != showList(x.want) {
			t.Errorf("%s: %s", short(x.l), short(got))
		}
	}
}

// P14.2: the first patch of an id, at each place, there once, twice, and not at all.
func TestFind(t *testing.T) {
	for _, who := range []int{0, 3, 7, -1, 8, math.MinInt, math.MaxInt} {
		for _, no := range []int{1, 2, full, 0, -1, full + 1, math.MinInt, math.MaxInt} {
			one := id(who, no)
			var rest []api.Named
			for _, i := range ids(5, 5, no, who, who, 77, 77, no, 4, 3, who, no+1, who+1, no) {
				if i != one {
					rest = append(rest, api.Named{Id: i, Deps: []api.Id{one}})
				}
			}
			if Find(rest, one) != -1 || Find(nil, one) != -1 || Find([]api.Named{}, one) != -1 || Find(rest[:0], one) != -1 {
				t.Errorf("%v is found where it is not", one)
			}
			for k := range len(rest) + 1 {
				l := slices.Insert(slices.Clone(rest), k, api.Named{Id: one})
				if Find(l, one) != k {
					t.Errorf("%v in place %d is found in %d", one, k, Find(l, one))
				}
				for n := k + 1; n <= len(l); n++ {
					if twice := slices.Insert(slices.Clone(l), n, api.Named{Id: one, Text: "t"}); Find(twice, one) != k {
						t.Errorf("%v in places %d and %d is found in %d", one, k, n, Find(twice, one))
					}
				}
			}
		}
	}
	// Nothing but the Id counts.
	if l := []api.Named{{Id: id(3, 6)}, all(), {Id: id(3, 5)}}; Find(l, id(3, 5)) != 1 || Find(l[2:], id(3, 5)) != 0 || Find(l, id(0, 1)) != -1 || Find(l, api.Id{}) != -1 {
		t.Error("all()")
	}
	if Find([]api.Named{{}}, api.Id{}) != 0 {
		t.Error("noughts")
	}
}

// P14.2: Find, all lists of at most four of some patches.
func TestFindAllSmall(t *testing.T) {
	some := ids(0, 1, 0, 2, 1, 1, 0, 0)
	lists := [][]api.Named{nil}
	for k := 0; k < len(lists) && len(lists[k]) < 4; k++ {
		for _, i := range some[:3] {
			lists = append(lists, append(slices.Clone(lists[k]), api.Named{Id: i}))
		}
	}
	for _, l := range lists {
		for _, i := range some {
			if got, want := Find(l, i), toldFind(l, i); got != want {
				t.Errorf("%v, %v: %d, not %d", l, i, got, want)
			}
		}
	}
}

// fit is a change that fits a tree, as next chooses it: a number from 0 on, below the one that it is given.
func fit(x api.Tree, next func(int) int) api.Prim {
	free := slices.DeleteFunc(words("a b c d e f"), func(s string) bool {
		return slices.ContainsFunc(x, func(f api.File) bool { return f.Name == s })
	})
	what := next(12)
	if len(x) == 0 || what == 0 && len(free) > 0 {
		return add(free[next(len(free))])
	}
	f := x[next(len(x))]
	if what <= 2 && len(free) > 0 {
		return move(f.Name, free[next(len(free))])
	}
	if what == 3 && len(f.Lines) == 0 {
		return rm(f.Name)
	}
	now := numbered(50)[next(50):][:next(3)%2]
	if what == 4 {
		return with(set(f.Name, "", ""), api.Hunk{Old: slices.Clone(f.Lines), New: append(slices.Clone(f.Lines), now...)})
	}
	at := next(len(f.Lines) + 1)
	old := f.Lines[at:][:next(min(3, len(f.Lines)-at+1))]
	return with(put(f.Name, 0, "", ""), api.Hunk{At: at, Old: slices.Clone(old), New: slices.Clone(now)})
}

// told are n patches that change a tree, one behind the other, and what that is then.
func told(x api.Tree, n int, next func(int) int) ([]api.Named, api.Tree) {
	var l []api.Named
	for k := range n {
		p := api.Named{Id: id(next(8), k+1), Text: fmt.Sprint("t", k)}
		for range next(5) {
			q := fit(x, next)
			y, e := prim.Apply(x, q)
			if e != api.OK {
				break
			}
			p.L, x = append(p.L, q), y
		}
		l = append(l, p)
	}
	return l, x
}

// P14.2, P14.3: longer stories, and such as have one change that is not as it was told, by a fixed seed.
func TestStories(t *testing.T) {
	chance := rand.New(rand.NewPCG(14, 1))
	start := api.Tree{{Name: "a", Lines: numbered(40)}, {Name: "c", Lines: numbered(30)}, {Name: "e"}}
	failed := 0
	for range 2000 {
		l, end := told(start, chance.IntN(8), chance.IntN)
		got, e := Apply(start, l)
		if e != api.OK || showTree(got) != showTree(end) || !checkApply(t, start, l) {
			t.Errorf("%s: %s, error %d", short(l), short(got), e)
		}
		for k, p := range l {
			checkMay(t, p)
			if Find(l, p.Id) != k {
				t.Errorf("%v in place %d is found in %d", p.Id, k, Find(l, p.Id))
			}
		}
		if k := chance.IntN(8); k < len(l) {
			if !checkApply(t, start, slices.Delete(copiedAll(l), k, k+1)) {
				failed++
			}
			odd := copiedAll(l)
			odd[k].L = append(odd[k].L, wrong()[chance.IntN(len(wrong()))])
			if checkApply(t, start, odd) {
				t.Errorf("%s can be done", short(odd))
			}
		}
		if t.Failed() {
			return
		}
	}
	if failed < 50 {
		t.Errorf("only %d fail", failed)
	}
}

// P14.1: larger patches, of which one thing may be wrong, by a fixed seed.
func TestLargerMay(t *testing.T) {
	chance := rand.New(rand.NewPCG(14, 2))
	may := 0
	for range 10000 {
		checkMay(t, chosen(chance.IntN))
		p := fine(chance.IntN)
		q := copied(p)
		checkMay(t, p)
		checkSame(t, p, q)
		if toldMay(p) {
			may++
		}
		switch chance.IntN(5) {
		case 0:
			q.Id = id(chance.IntN(10)-1, chance.IntN(3))
		case 1:
			if len(q.Deps) > 0 {
				q.Deps[chance.IntN(len(q.Deps))] = id(chance.IntN(10)-1, chance.IntN(40))
			}
		case 2:
			q.Text += of(chance.IntN(50), "x")
		case 3:
			q.L = append(q.L, wrong()[chance.IntN(len(wrong()))])
		case 4:
			q.Deps = append(q.Deps, p.Id)
			slices.SortFunc(q.Deps, func(a, b api.Id) int { return slices.Compare([]int{a.Who, a.No}, []int{b.Who, b.No}) })
		}
		checkMay(t, q)
		checkSame(t, p, q)
		if t.Failed() {
			return
		}
	}
	if may < 5000 {
		t.Errorf("only %d may be", may)
	}
}

// fine is a patch that may be, as next chooses it, of as many Deps as there may be.
func fine(next func(int) int) api.Named {
	p := api.Named{Id: id(next(8), 100+next(3)), Text: of(next(41), "tu")}
	at := id(0, 0)
	for range next(61) {
		if next(9) == 0 && at.Who < 7 {
			at = id(at.Who+1, 0)
		}
		if at.No += 1 + next(3); at == p.Id {
			at.No++
		}
		p.Deps = append(p.Deps, at)
	}
	for range next(5) {
		p.L = append(p.L, fair()[next(len(fair()))])
	}
	return p
}

// chosen is a patch of whatever next chooses, that may be or not.
func chosen(next func(int) int) api.Named {
	some := []int{0, 1, 2, 7, 8, -1, 3, full, full + 1, math.MaxInt, math.MinInt}
	number := func() int { return some[next(next(len(some))+1)] }
	p := api.Named{Id: id(number(), number()), Text: []string{"", "t", of(80, "t"), of(81, "t"), "t\n", "\n"}[next(next(6)+1)]}
	for range next(4) {
		p.Deps = append(p.Deps, id(number(), number()))
	}
	for range next(4) {
		if next(6) == 0 {
			p.L = append(p.L, wrong()[next(len(wrong()))])
		} else {
			p.L = append(p.L, fair()[next(len(fair()))])
		}
	}
	return p
}

// R1, R4: whatever is given, nothing panics, and with an error no tree is told.
func TestWhateverIsGiven(t *testing.T) {
	chance := rand.New(rand.NewPCG(14, 3))
	junk := func() api.Tree {
		var x api.Tree
		for range chance.IntN(4) {
			x = append(x, api.File{Name: words("a b c A ß")[chance.IntN(5)], Lines: append(words("x y z \xff")[chance.IntN(5):], "\n", of(81, "x"))[:chance.IntN(3)%2]})
		}
		return x
	}
	for range 10000 {
		x := junk()
		var l []api.Named
		for range chance.IntN(4) {
			l = append(l, chosen(chance.IntN))
		}
		if got, e := Apply(x, l); e != api.OK && len(got) != 0 {
			t.Errorf("%v, %s: %v, error %d", x, short(l), got, e)
		}
		checkApply(t, x, l)
		for _, p := range l {
			for _, q := range l {
				checkSame(t, p, q)
				if Less(p.Id, q.Id) != toldLess(p.Id, q.Id) {
					t.Errorf("%v, %v: less: %v", p.Id, q.Id, Less(p.Id, q.Id))
				}
			}
			if Find(l, p.Id) != toldFind(l, p.Id) || Find(l, id(p.Id.No, p.Id.Who)) != toldFind(l, id(p.Id.No, p.Id.Who)) {
				t.Errorf("%s: %v is found in %d", short(l), p.Id, Find(l, p.Id))
			}
		}
		if t.Failed() {
			return
		}
	}
	// Much more than there may be.
	huge := api.Named{Id: id(0, 1), Deps: make([]api.Id, 1<<20), Text: of(1<<20, "x"), L: make([]api.Prim, 1<<18)}
	if May(huge) || !Same(huge, huge) || len(All([]api.Named{huge, huge})) != 1<<19 {
		t.Error("a huge patch")
	}
	if got, e := Apply(nil, []api.Named{huge}); e != api.ErrArg || len(got) != 0 {
		t.Errorf("a huge patch: %d files, error %d", len(got), e)
	}
	if Find(make([]api.Named, 1<<18), id(0, 1)) != -1 {
		t.Error("among many")
	}
}

// markedLines is l with room behind it, in which a write is seen; so are marked patches, with their Deps, changes and lines, and markedTree a tree.
func markedLines(l []string) []string { return append(slices.Clone(l), "mark", "mark")[:len(l)] }

func marked(l []api.Named) []api.Named {
	out := append(slices.Clone(l), api.Named{Text: "mark"}, api.Named{Text: "mark"})[:len(l)]
	for k, p := range l {
		out[k].Deps = append(slices.Clone(p.Deps), id(9, 9), id(9, 9))[:len(p.Deps)]
		out[k].L = append(slices.Clone(p.L), add("mark"), add("mark"))[:len(p.L)]
		for n, q := range p.L {
			out[k].L[n].H.Old, out[k].L[n].H.New = markedLines(q.H.Old), markedLines(q.H.New)
		}
	}
	return out
}

func markedTree(x api.Tree) api.Tree {
	out := append(slices.Clone(x), file("mark", ""), file("mark", ""))[:len(x)]
	for k, f := range x {
		out[k].Lines = markedLines(f.Lines)
	}
	return out
}

// wide shows all of marked patches, with the room behind whatever they have; wideTree of a tree.
func wide(l []api.Named) string {
	l = copiedRoom(l)
	for k, p := range l {
		l[k].Deps, l[k].L = room(p.Deps), copiedRoom(p.L)
		for n, q := range l[k].L[:len(p.L)] {
			l[k].L[n].H.Old, l[k].L[n].H.New = room(q.H.Old), room(q.H.New)
		}
	}
	return showAll(l)
}

func wideTree(x api.Tree) string {
	out := copiedRoom(x)
	for k, f := range x {
		out[k].Lines = room(f.Lines)
	}
	return showTree(out)
}

// room is a list with what stands in the two places behind it, if it has such; copiedRoom the same in memory of its own.
func room[T any](l []T) []T { return l[:min(cap(l), len(l)+2)] }

func copiedRoom[T any](l []T) []T { return slices.Clone(room(l)) }

// spoil writes over a list of changes, over the room behind it, and over all lines of it; spoilPatches over patches so, spoilTree over a tree.
func spoil(l []api.Prim) {
	for _, p := range l {
		spoilLines(p.H.Old)
		spoilLines(p.H.New)
	}
	l = l[:cap(l)]
	for k := range l {
		l[k] = api.Prim{Kind: 9, Name: "spoilt"}
	}
}

func spoilPatches(l []api.Named) {
	for _, p := range l {
		spoil(p.L)
		deps := p.Deps[:cap(p.Deps)]
		for k := range deps {
			deps[k] = id(-7, -7)
		}
	}
	l = l[:cap(l)]
	for k := range l {
		l[k] = api.Named{Text: "spoilt"}
	}
}

func spoilTree(x api.Tree) {
	for _, f := range x {
		spoilLines(f.Lines)
	}
	x = x[:cap(x)]
	for k := range x {
		x[k] = api.File{Name: "spoilt"}
	}
}

func spoilLines(l []string) {
	l = l[:cap(l)]
	for k := range l {
		l[k] = "spoilt"
	}
}

// checkApart holds, of what is answered, that none of its lists of lines share memory.
func checkApart(t *testing.T, what string, lines [][]string) {
	t.Helper()
	was := make([][]string, len(lines))
	for k, l := range lines {
		was[k] = slices.Clone(l)
	}
	for k, l := range lines {
		spoilLines(l)
		for n := k + 1; n < len(lines); n++ {
			if !slices.Equal(lines[n], was[n]) {
				t.Errorf("%s: lists of lines %d and %d of what is answered are shared", what, k, n)
			}
		}
	}
}

func linesOf(l []api.Prim) [][]string {
	var out [][]string
	for _, p := range l {
		out = append(out, p.H.Old, p.H.New)
	}
	return out
}

func linesOfTree(x api.Tree) [][]string {
	var out [][]string
	for _, f := range x {
		out = append(out, f.Lines)
	}
	return out
}

// checkOwn holds R3: what is handed in stays, its room too, and what is answered shares nothing with that, nor within itself.
func checkOwn(t *testing.T, x api.Tree, l []api.Named) {
	t.Helper()
	inX, inL := markedTree(x), marked(l)
	wasX, wasL := wideTree(inX), wide(inL)
	stays := func(what string) {
		t.Helper()
		if wideTree(inX) != wasX || wide(inL) != wasL {
			t.Fatalf("%s, %s: what was handed in is now %s, %s: %s", short(x), short(l), short(inX), short(inL), what)
		}
	}
	tree, e := Apply(inX, inL)
	changes := All(inL)
	for _, p := range inL {
		May(p)
		Same(p, inL[0])
		Find(inL, p.Id)
	}
	stays("changed")
	wantTree, want := showTree(tree), showList(changes)
	checkApart(t, short(l), linesOfTree(tree))
	checkApart(t, short(l), linesOf(changes))
	spoilTree(tree)
	spoil(changes)
	stays("shared with what is answered")
	tree, again := Apply(inX, inL)
	changes = All(inL)
	spoilTree(inX)
	spoilPatches(inL)
	if again != e || showTree(tree) != wantTree || showList(changes) != want {
		t.Errorf("%s, %s: what was answered is then %s, %s, error %d", short(x), short(l), short(tree), short(changes), again)
	}
}

// R3: patches that can be done and such that can't, that may be and may not, none, and such without changes.
func TestNothingIsShared(t *testing.T) {
	trees := []api.Tree{nil, {}, {file("a", "x")}, {file("a", ""), file("b", "x y x y")}, {file("b", "x"), file("a", "\n"), file("b", "x")}, {{Name: "c", Lines: []string{}}}}
	patches := [][]api.Named{
		nil, {}, {{}}, story(nil, nil), {all()}, {all(), all()}, story(list(add("d")), nil, list(with(put("d", 0, "", ""), api.Hunk{Old: []string{}, New: words("x y")}))),
		story(list(put("a", 1, "", "z"))), story(list(set("a", "x", "y z")), list(move("a", "d"))), story(list(put("b", 0, "x y", "")), list(put("b", 0, "x y", ""), rm("b"))),
		story(wrong()), story(fair()), story(fair(), wrong()), story(list(put("b", 0, "", "")), list(rm("c"))), story(list(rm("c")), list(add("c"))),
		{{Id: id(-1, 0), Deps: ids(1, 1, 1, 1), Text: "\n", L: list(add("d"))}, {Deps: []api.Id{}, L: []api.Prim{}}},
	}
	for _, x := range trees {
		for _, l := range patches {
			checkOwn(t, x, l)
		}
	}
	// One change alone, as the only one answered.
	for _, p := range append(fair(), wrong()...) {
		checkOwn(t, trees[3], story(list(p)))
		checkOwn(t, trees[3], story(nil, list(p), nil))
	}
}

// R3: one list of lines, and pieces of it, that all changes have; one list of changes, and pieces of it, that all patches have; one patch many times.
func TestOneListManyTimes(t *testing.T) {
	lines := markedLines(words("x y x y"))
	changes := list(
		with(put("a", 0, "", ""), api.Hunk{Old: lines[:2], New: lines}), with(put("a", 0, "", ""), api.Hunk{Old: lines, New: lines[:2]}), with(put("a", 2, "", ""), api.Hunk{Old: lines[:0], New: lines[:0]}),
		with(put("a", 2, "", ""), api.Hunk{New: lines[1:3]}), with(put("a", 2, "", ""), api.Hunk{Old: lines[1:3]}), with(put("b", 0, "", ""), api.Hunk{Old: lines[4:], New: lines[4:]}),
	)
	deps := ids(0, 1, 0, 2, 1, 1)
	p := api.Named{Id: id(5, 1), Deps: deps, L: changes}
	q := api.Named{Id: id(0, 1), Deps: deps[1:2], L: changes[:2]}
	x := api.Tree{{Name: "a", Lines: lines}, {Name: "b", Lines: lines[:2]}, {Name: "c", Lines: lines[:0]}}
	was := copiedTree(x)
	check := func(l []api.Named) {
		t.Helper()
		wantChanges, before := showList(toldAll(l)), wide(l)
		want, we := toldApply(copiedTree(was), copiedAll(l))
		got, e := Apply(x, l)
		answered := All(l)
		if e != we || showTree(got) != showTree(want) || showList(answered) != wantChanges {
			t.Errorf("%s: %s, %s, error %d", short(l), short(got), short(answered), e)
		}
		checkApart(t, short(l), linesOfTree(got))
		checkApart(t, short(l), linesOf(answered))
		spoilTree(got)
		spoil(answered)
		if !slices.Equal(lines[:6], words("x y x y mark mark")) || showTree(x) != showTree(was) || wide(l) != before {
			t.Fatalf("%s: is now %s, %q", before, short(l), lines[:6])
		}
	}
	check(nil)
	check([]api.Named{p})
	check([]api.Named{p, p, p})
	check([]api.Named{q, p, q, {L: changes[2:4]}, {L: changes[4:]}, {L: changes[6:]}, {L: changes[:0]}})
	check([]api.Named{{L: changes[3:4]}, {L: changes[4:5]}, p})
	l := []api.Named{q, p, q}
	check(l[:1])
	check(l[1:])
	if !May(p) || !May(q) || !Same(p, p) || Same(p, q) || Find(l, p.Id) != 1 || Find(l[1:], q.Id) != 1 {
		t.Error("one list many times")
	}
	// Deps that are a piece of those of another one are Deps of their own.
	if a, b := (api.Named{Id: id(7, 7), Deps: deps[:2]}), (api.Named{Id: id(7, 7), Deps: deps[:3]}); Same(a, b) || !May(a) || !May(b) {
		t.Error("pieces of one list of Deps")
	}
}

// R5: what is asked does not hang on what was asked ahead of it, nor on what went wrong there.
func TestAskedOnceMore(t *testing.T) {
	p, l := all(), story(list(add("a")), list(put("a", 0, "", "x")))
	ask := func() string {
		return fmt.Sprint(Less(id(0, 1), id(0, 2)), Less(id(1, 1), id(0, 2)), May(p), May(api.Named{}), Same(p, all()), Same(p, l[0]), Find(l, id(1, 1)), Find(l, id(1, 2)), All(l)) + fmt.Sprint(Apply(nil, l))
	}
	first := ask()
	if want := "true false true false true false 1 -1 [{0 a  {0 [] []}} {3 a  {0 [] [x]}}]" + "[{a [x]}] 0"; first != want {
		t.Errorf("%s, not %s", first, want)
	}
	for _, q := range wrong() {
		Apply(api.Tree{file("a", "x")}, story(list(q)))
		May(api.Named{Id: id(0, 1), L: list(q)})
		Same(p, api.Named{L: list(q)})
		All(story(list(q), wrong()))
	}
	May(api.Named{Id: id(0, 1), Deps: counted(61, 0, 1)})
	Find(nil, id(0, 1))
	if again := ask(); again != first {
		t.Errorf("%s, and then %s", first, again)
	}
}

func FuzzPatch(f *testing.F) {
	f.Add([]byte{}, []byte{}, byte(0))
	f.Add([]byte{5, 3, 1, 2, 3, 4, 5, 6, 1, 0, 2}, []byte{5, 1, 9, 0, 20, 1}, byte(40))
	f.Add([]byte{0, 4, 9, 0, 1, 1, 5, 0, 1, 1, 30, 1, 2, 1, 1}, []byte{9, 0, 7, 1, 3, 0, 3, 0, 4, 1, 1, 1}, byte(20))
	f.Add([]byte{200, 17, 3, 255, 1, 90, 7, 8, 4, 3, 5, 6, 7, 8, 9}, []byte{200, 11, 0, 3, 2, 1, 100, 4, 4}, byte(5))
	f.Fuzz(func(t *testing.T, one, other []byte, size byte) {
		start := api.Tree{{Name: "a", Lines: numbered(int(size))}, {Name: "c", Lines: numbered(int(size) / 3)}, {Name: "e"}}
		l, end := told(start, min(8, len(one)/2), from(one))
		if got, e := Apply(start, l); e != api.OK || showTree(got) != showTree(end) {
			t.Errorf("%s: %s, error %d", short(l), short(got), e)
		}
		checkApply(t, start, l)
		checkOwn(t, start, l)
		next := from(other)
		for range 3 {
			p, q := chosen(next), fine(next)
			checkMay(t, p)
			checkMay(t, q)
			checkSame(t, p, q)
			checkSame(t, p, chosen(next))
			l = slices.Insert(l, min(len(l), next(9)), p, q)
			if Find(l, p.Id) != toldFind(l, p.Id) || Find(l, q.Id) != toldFind(l, q.Id) || Less(p.Id, q.Id) != toldLess(p.Id, q.Id) {
				t.Errorf("%s: %v, %v", short(l), p.Id, q.Id)
			}
			checkApply(t, start, l)
			checkOwn(t, start, l)
		}
	})
}

// from chooses by bytes, one by one; when there are none any more, it chooses 0.
func from(b []byte) func(int) int {
	return func(n int) int {
		if len(b) == 0 || n == 0 {
			return 0
		}
		k := int(b[0]) % n
		b = b[1:]
		return k
	}
}
