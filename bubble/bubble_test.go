package bubble

import (
	"fmt"
	"math"
	"math/rand/v2"
	"slices"
	"strconv"
	"strings"
	"testing"

	"quiltmaker/api"
	"quiltmaker/prim"
	"quiltmaker/trade"
)

const full = 1 << 20

// words is a list of the words of s.
func words(s string) []string { return strings.Fields(s) }

// of is n bytes of s, one behind the other; many a list of n lines s; numbered are n lines, no two of which are the same.
func of(n int, s string) string { return strings.Repeat(s, n) }

func many(n int, s string) []string { return slices.Repeat([]string{s}, n) }

func numbered(n int) []string {
	var l []string
	for k := range n {
		l = append(l, fmt.Sprint("l", k))
	}
	return l
}

// id is an id; ids are some, of a Who and a No each.
func id(who, no int) api.Id { return api.Id{Who: who, No: no} }

func ids(l ...int) []api.Id {
	var out []api.Id
	for k := 0; k+1 < len(l); k += 2 {
		out = append(out, id(l[k], l[k+1]))
	}
	return out
}

// counted are n ids of who, that rise, the first one with the No from.
func counted(n, who, from int) []api.Id {
	var out []api.Id
	for k := range n {
		out = append(out, id(who, from+k))
	}
	return out
}

// add, rm, move, put and set are changes of each kind, as they may be.
func add(name string) api.Prim { return api.Prim{Kind: 0, Name: name} }

func rm(name string) api.Prim { return api.Prim{Kind: 1, Name: name} }

func move(name, to string) api.Prim { return api.Prim{Kind: 2, Name: name, To: to} }

func put(name string, at int, old, now string) api.Prim {
	return api.Prim{Kind: 3, Name: name, H: api.Hunk{At: at, Old: words(old), New: words(now)}}
}

func set(name, old, now string) api.Prim {
	return api.Prim{Kind: 4, Name: name, H: api.Hunk{Old: words(old), New: words(now)}}
}

// with is p with another H.
func with(p api.Prim, h api.Hunk) api.Prim {
	p.H = h
	return p
}

// file is a file with lines; list are changes.
func file(name, lines string) api.File { return api.File{Name: name, Lines: words(lines)} }

func list(l ...api.Prim) []api.Prim { return l }

// story are patches, each of some changes; each has an Id, Deps and a Text of its own, and none hangs on one of them by Deps.
func story(l ...[]api.Prim) []api.Named {
	var out []api.Named
	for k, changes := range l {
		out = append(out, api.Named{Id: id(k%8, 10+k/8), Deps: counted(k%4, k%8, 1), Text: fmt.Sprint("t", k), L: changes})
	}
	return out
}

// showOne, show and showTree are all of what they are given; lists without elements are shown the same.
func showOne(p api.Prim) string {
	return fmt.Sprintf("%d %q %q %d %q %q\n", p.Kind, p.Name, p.To, p.H.At, append([]string{}, p.H.Old...), append([]string{}, p.H.New...))
}

func show(p api.Named) string {
	s := fmt.Sprintf("%d %d %v %q %d\n", p.Id.Who, p.Id.No, append([]api.Id{}, p.Deps...), p.Text, len(p.L))
	for _, q := range p.L {
		s += showOne(q)
	}
	return s
}

func showAll(l []api.Named) string {
	s := fmt.Sprint(len(l), "\n")
	for _, p := range l {
		s += show(p)
	}
	return s
}

func showTree(t api.Tree) string {
	s := ""
	for _, f := range t {
		s += fmt.Sprintf("%q %q\n", f.Name, append([]string{}, f.Lines...))
	}
	return s
}

// showHead is all that a patch has beside its changes, and how many these are.
func showHead(p api.Named) string {
	p.L = make([]api.Prim, len(p.L))
	return show(p)
}

// short is what is told of something in a test's log.
func short(x any) string {
	s := fmt.Sprint(x)
	if len(s) > 400 {
		s = s[:200] + " .. " + s[len(s)-200:]
	}
	return s
}

// has is whether some ids have one.
func has(ids []api.Id, i api.Id) bool {
	for _, d := range ids {
		if d.Who == i.Who && d.No == i.No {
			return true
		}
	}
	return false
}

// toldApply is a tree that patches change, change by change.
func toldApply(t api.Tree, l []api.Named) (api.Tree, api.Errno) {
	for _, p := range l {
		for _, q := range p.L {
			next, e := prim.Apply(t, q)
			if e != 0 {
				return nil, e
			}
			t = next
		}
	}
	return t, 0
}

// toldPart is what P16.1 tells, and the numbers of those that stay, and of those that are put behind: in one list, which stands as those that stay, those that were put behind so far, and those that come, each goes ahead, place by place, till all that were put behind are behind it.
func toldPart(l []api.Named, ids []api.Id) (stay, gone []int, joint []api.Named) {
	joint = slices.Clone(l)
	for k, p := range l {
		try, can := slices.Clone(joint), !has(ids, p.Id)
		for n := k; can && n > len(stay); n-- {
			try[n-1], try[n], can = trade.Pass(try[n-1], try[n])
		}
		if can {
			joint, stay = try, append(stay, k)
		} else {
			gone = append(gone, k)
		}
	}
	return stay, gone, joint
}

// toldPick is what P16.2 tells, as toldPart: each that comes, from the last one on, goes behind, place by place, till all that were picked so far are ahead of it.
func toldPick(l []api.Named, ids []api.Id) (picked, rest []int, joint []api.Named) {
	joint = slices.Clone(l)
	for k, p := range slices.Backward(l) {
		try, can := slices.Clone(joint), !has(ids, p.Id)
		for n := k; can && n < k+len(picked); n++ {
			try[n], try[n+1], can = trade.Pass(try[n], try[n+1])
		}
		if can {
			joint, rest = try, append([]int{k}, rest...)
		} else {
			picked = append([]int{k}, picked...)
		}
	}
	return picked, rest, joint
}

// wrong are changes that may not be: each for one thing alone, or for more.
func wrong() []api.Prim {
	return list(
		api.Prim{}, api.Prim{Kind: -1, Name: "a"}, api.Prim{Kind: 5, Name: "a"}, api.Prim{Kind: math.MinInt, Name: "a"}, api.Prim{Kind: math.MaxInt, Name: "a", To: "b"},
		add("A"), add(of(17, "a")), with(add("a"), api.Hunk{New: words("x")}), rm("a b"), with(rm("a"), api.Hunk{At: 1}),
		move("a", ""), move("a", "a"), move("", "b"), with(move("a", "b"), api.Hunk{Old: words("x")}),
		put("", 0, "", "x"), put("a", -1, "", "x"), put("a", full+1, "", "x"), put("a", math.MaxInt, "x", ""), put("a", math.MinInt, "", ""),
		with(put("a", 0, "", ""), api.Hunk{Old: []string{"\n"}}), with(put("a", 0, "", ""), api.Hunk{New: []string{of(81, "x")}}), with(put("a", 0, "", ""), api.Hunk{New: many(201, "x")}),
		set("", "", "x"), with(set("a", "", ""), api.Hunk{At: 1, New: words("x")}), with(set("a", "", ""), api.Hunk{Old: many(201, "x")}),
	)
}

// fair are changes of each kind that may be; which name a, b and c.
func fair() []api.Prim {
	return list(
		add("a"), add("b"), rm("a"), rm("b"), move("a", "b"), move("b", "c"), put("a", 0, "", "x"), put("a", 3, "x", ""), put("b", 1, "y", "z"), put("b", 5, "", "x y"),
		set("a", "", "x"), set("b", "x y", ""),
	)
}

// numbers are those of which s tells; some are those of l that have them; idsOf the ids of those, and of -1 one that no patch here has.
func numbers(s string) []int {
	var l []int
	for _, w := range words(s) {
		n, _ := strconv.Atoi(w)
		l = append(l, n)
	}
	return l
}

func some(l []api.Named, k []int) []api.Named {
	var out []api.Named
	for _, n := range k {
		out = append(out, l[n])
	}
	return out
}

func idsOf(l []api.Named, k ...int) []api.Id {
	var out []api.Id
	for _, n := range k {
		if n < 0 {
			out = append(out, id(99, 99))
		} else {
			out = append(out, l[n].Id)
		}
	}
	return out
}

// chosenOf are the ids of those patches of which a bit of n tells.
func chosenOf(l []api.Named, n int) []api.Id {
	var out []api.Id
	for k, p := range l {
		if n>>k&1 == 1 {
			out = append(out, p.Id)
		}
	}
	return out
}

// checkCut holds a list that is cut in two against what is told of it: two lists, and the numbers of the patches in these; that no patch is lost or comes twice, that each list has the order of l, and what stays with each patch; and that those of ids are in the one list alone that is named.
func checkCut(t *testing.T, what string, l []api.Named, ids []api.Id, first, last []api.Named, firsts, lasts []int, joint []api.Named) {
	t.Helper()
	n := len(firsts)
	if showAll(first) != showAll(joint[:n]) || showAll(last) != showAll(joint[n:]) {
		t.Fatalf("%s, %s, %s: %s and %s, not %s and %s", what, short(l), short(ids), short(first), short(last), short(joint[:n]), short(joint[n:]))
	}
	seen := make([]int, len(l))
	for i, k := range slices.Concat(firsts, lasts) {
		if seen[k]++; showHead(slices.Concat(first, last)[i]) != showHead(l[k]) {
			t.Errorf("%s, %s, %s: %d is %s and %s", what, short(l), short(ids), k, short(first), short(last))
		}
	}
	if !slices.IsSorted(firsts) || !slices.IsSorted(lasts) || slices.ContainsFunc(seen, func(n int) bool { return n != 1 }) {
		t.Errorf("%s, %s, %s: %v and %v", what, short(l), short(ids), firsts, lasts)
	}
	free := last
	if what == "Part" {
		free = first
	}
	for _, p := range free {
		if has(ids, p.Id) {
			t.Errorf("%s, %s, %s: %s and %s", what, short(l), short(ids), short(first), short(last))
		}
	}
}

// checkPart holds P16.1 as it is told, and what of P16.4 tells of the lists; so does checkPick P16.2. They tell the numbers of those ahead, and of those behind.
func checkPart(t *testing.T, l []api.Named, ids []api.Id) ([]int, []int) {
	t.Helper()
	stay, gone := Part(l, ids)
	stays, goes, joint := toldPart(l, ids)
	checkCut(t, "Part", l, ids, stay, gone, stays, goes, joint)
	return stays, goes
}

func checkPick(t *testing.T, l []api.Named, ids []api.Id) ([]int, []int) {
	t.Helper()
	picked, rest := Pick(l, ids)
	picks, rests, joint := toldPick(l, ids)
	checkCut(t, "Pick", l, ids, picked, rest, picks, rests, joint)
	return picks, rests
}

// checkOther holds that a list cut in two by the one call is cut so by the other one, too, when it is asked for all that stay, or for all that are not picked; but where both lists have one Id.
func checkOther(t *testing.T, l []api.Named, first, last []api.Named) {
	t.Helper()
	for _, p := range first {
		if has(Ids(last), p.Id) {
			return
		}
	}
	picked, rest := Pick(l, Ids(first))
	if showAll(picked) != showAll(first) || showAll(rest) != showAll(last) {
		t.Errorf("%s: %s and %s; picked, %s and %s", short(l), short(first), short(last), short(picked), short(rest))
	}
	stay, gone := Part(l, Ids(last))
	if showAll(stay) != showAll(first) || showAll(gone) != showAll(last) {
		t.Errorf("%s: %s and %s; parted, %s and %s", short(l), short(first), short(last), short(stay), short(gone))
	}
}

// check holds all that can be held of patches and ids. It tells whether one that is not of ids is put behind, or picked, and whether one is another one then.
func check(t *testing.T, l []api.Named, ids []api.Id) (hung, other bool) {
	t.Helper()
	own := 0
	for _, p := range l {
		if has(ids, p.Id) {
			own++
		}
	}
	stays, goes := checkPart(t, l, ids)
	picks, rests := checkPick(t, l, ids)
	stay, gone := Part(l, ids)
	picked, rest := Pick(l, ids)
	checkOther(t, l, stay, gone)
	checkOther(t, l, picked, rest)
	parted, pickedAll := some(l, slices.Concat(stays, goes)), some(l, slices.Concat(picks, rests))
	other = showAll(parted) != showAll(slices.Concat(stay, gone)) || showAll(pickedAll) != showAll(slices.Concat(picked, rest))
	return len(goes) > own || len(picks) > own, other
}

// checkTree holds, of P16.4, that a tree is changed to the same, where the patches change it: by those that stay, and those that are put behind, and by those that are picked, and the rest; the first ones of these change it alone. It tells whether they change it.
func checkTree(t *testing.T, x api.Tree, l []api.Named, ids []api.Id) bool {
	t.Helper()
	want, e := toldApply(x, l)
	if e != 0 {
		return false
	}
	ask := func(what string, first, last []api.Named) {
		t.Helper()
		half, e1 := toldApply(x, first)
		now, e2 := toldApply(half, last)
		if e1 != 0 || e2 != 0 || showTree(now) != showTree(want) {
			t.Errorf("%s, %s, %s, %s: %s; by %s and %s: %s, errors %d, %d", what, short(x), short(l), short(ids), short(want), short(first), short(last), short(now), e1, e2)
		}
	}
	stay, gone := Part(l, ids)
	ask("Part", stay, gone)
	picked, rest := Pick(l, ids)
	ask("Pick", picked, rest)
	return true
}

// cut is a list, the numbers of those of which the ids are told (-1: one that is not there), the numbers of those that are ahead then, and behind, and the changes of those that are others then.
type cut struct {
	l           []api.Named
	ids         []int
	first, last string
	others      map[int][]api.Prim
}

// want are those of which s tells, as they are then.
func (c cut) want(s string) []api.Named {
	l := slices.Clone(c.l)
	for k, changes := range c.others {
		l[k].L = changes
	}
	return some(l, numbers(s))
}

// hold holds what a call answers against what is wanted.
func (c cut) hold(t *testing.T, call func(l []api.Named, ids []api.Id) ([]api.Named, []api.Named)) {
	t.Helper()
	ids := idsOf(c.l, c.ids...)
	first, last := call(c.l, ids)
	if showAll(first) != showAll(c.want(c.first)) || showAll(last) != showAll(c.want(c.last)) {
		t.Errorf("%s, %v: %s and %s", short(c.l), c.ids, short(first), short(last))
	}
	check(t, c.l, ids)
}

// The chapter's example: Add a, Add b, x in a: Part of the first one: b stays; a, and x, are put behind.
func TestExample(t *testing.T) {
	a, b, x := api.Named{Id: id(0, 1), L: list(add("a"))}, api.Named{Id: id(0, 2), L: list(add("b"))}, api.Named{Id: id(0, 3), L: list(put("a", 0, "", "x"))}
	l := []api.Named{a, b, x}
	stay, gone := Part(l, ids(0, 1))
	if showAll(stay) != showAll([]api.Named{b}) || showAll(gone) != showAll([]api.Named{a, x}) {
		t.Errorf("%v, %v", stay, gone)
	}
	picked, rest := Pick(l, ids(0, 3))
	if showAll(picked) != showAll([]api.Named{a, x}) || showAll(rest) != showAll([]api.Named{b}) {
		t.Errorf("%v, %v", picked, rest)
	}
	if got := Ids(l); !slices.Equal(got, ids(0, 1, 0, 2, 0, 3)) {
		t.Errorf("%v", got)
	}
}

// three are patches that pass one another as they are; chain are such of which some hang on others: 1 on 0, 3 on 1, 4 on 2; odd are such as may not be, but the one without changes.
func three() []api.Named { return story(list(add("a")), list(add("b")), list(add("c"))) }

func chain() []api.Named {
	return story(list(add("a")), list(put("a", 0, "", "x")), list(add("b")), list(put("a", 0, "x", "")), list(put("b", 0, "", "y")))
}

func odd() []api.Named { return story(wrong(), list(add("a")), nil, wrong()) }

// P16.1: what stays, and what is put behind, and as what.
func TestPart(t *testing.T) {
	for _, c := range []cut{
		// No patches; one; no ids; ids that are not there; one twice.
		{nil, nil, "", "", nil}, {nil, []int{-1}, "", "", nil}, {[]api.Named{}, []int{-1, -1}, "", "", nil},
		{three()[:1], nil, "0", "", nil}, {three()[:1], []int{-1}, "0", "", nil}, {three()[:1], []int{0}, "", "0", nil}, {three()[:1], []int{0, 0}, "", "0", nil}, {three()[:1], []int{-1, 0, -1}, "", "0", nil},
		{three(), nil, "0 1 2", "", nil}, {three(), []int{-1}, "0 1 2", "", nil},
		// The first one's, one between, the last one's; some; all; in any order, and more often than once.
		{three(), []int{0}, "1 2", "0", nil}, {three(), []int{1}, "0 2", "1", nil}, {three(), []int{2}, "0 1", "2", nil},
		{three(), []int{0, 1}, "2", "0 1", nil}, {three(), []int{1, 2}, "0", "1 2", nil}, {three(), []int{0, 2}, "1", "0 2", nil}, {three(), []int{2, 0}, "1", "0 2", nil}, {three(), []int{2, 0, -1, 2, 0}, "1", "0 2", nil},
		{three(), []int{0, 1, 2}, "", "0 1 2", nil}, {three(), []int{2, 1, 0, 0}, "", "0 1 2", nil},
		// One that hangs, and one that hangs on one that hangs.
		{chain(), []int{0}, "2 4", "0 1 3", nil}, {chain(), []int{1}, "0 2 4", "1 3", nil}, {chain(), []int{2}, "0 1 3", "2 4", nil}, {chain(), []int{3}, "0 1 2 4", "3", nil}, {chain(), []int{4}, "0 1 2 3", "4", nil},
		{chain(), []int{0, 2}, "", "0 1 2 3 4", nil}, {chain(), []int{4, 1}, "0 2", "1 3 4", nil}, {chain(), []int{3, 0}, "2 4", "0 1 3", nil},
		// One that stays behind one that was put behind, or behind more, is another one then.
		{story(list(put("a", 0, "", "x")), list(put("a", 5, "", "y"))), []int{0}, "1", "0", map[int][]api.Prim{1: list(put("a", 4, "", "y"))}},
		{story(list(put("a", 0, "", "x")), list(put("a", 3, "", "v v")), list(put("a", 9, "y", ""))), []int{0, 1}, "2", "0 1", map[int][]api.Prim{2: list(put("a", 6, "y", ""))}},
		{story(list(put("a", 0, "", "x")), list(move("a", "b")), list(put("b", 9, "y", ""))), []int{0, 1}, "2", "0 1", map[int][]api.Prim{2: list(put("a", 8, "y", ""))}},
		{story(list(add("a")), list(move("a", "b")), list(put("b", 0, "", "x"))), []int{1}, "0 2", "1", map[int][]api.Prim{2: list(put("a", 0, "", "x"))}},
		{story(list(put("a", 0, "", "x")), list(put("a", 3, "y", "")), list(put("a", 6, "", "z z")), list(put("a", 12, "w", ""))), []int{0}, "1 2 3", "0", map[int][]api.Prim{1: list(put("a", 2, "y", "")), 2: list(put("a", 5, "", "z z")), 3: list(put("a", 11, "w", ""))}},
		// One that was put behind is another one then: for one that stays, for more; each of some.
		{story(list(put("a", 9, "", "x")), list(put("a", 0, "", "v v"))), []int{0}, "1", "0", map[int][]api.Prim{0: list(put("a", 11, "", "x"))}},
		{story(list(put("a", 9, "", "x")), list(put("a", 0, "", "v")), list(add("b")), list(move("a", "c"))), []int{0}, "1 2 3", "0", map[int][]api.Prim{0: list(put("c", 10, "", "x"))}},
		{story(list(put("a", 9, "", "x")), list(put("a", 20, "", "y")), list(put("a", 0, "", "v"))), []int{0, 1}, "2", "0 1", map[int][]api.Prim{0: list(put("a", 10, "", "x")), 1: list(put("a", 21, "", "y"))}},
		{story(list(put("a", 9, "", "x")), list(move("a", "c")), list(put("a", 0, "", "v"), put("c", 0, "", "v"))), []int{0}, "1 2", "0", map[int][]api.Prim{0: list(put("c", 10, "", "x"))}},
		{story(list(put("a", 9, "", "x")), list(move("a", "c")), list(put("c", 9, "x", ""))), []int{0}, "1", "0 2", map[int][]api.Prim{0: list(put("c", 9, "", "x"))}},
		{story(list(put("a", 9, "", "x")), list(move("a", "c")), list(put("a", 9, "x", ""))), []int{0}, "1 2", "0", map[int][]api.Prim{0: list(put("c", 9, "", "x"))}},
		// Those that stay stand behind those that stay, and pass only what was put behind: what would not pass one that stays does not hang.
		{story(list(add("a")), list(put("b", 7, "x", "")), list(put("a", 0, "", "x")), list(put("b", 20, "", "y")), list(put("a", 0, "x", "z"))), []int{1}, "0 2 3 4", "1", map[int][]api.Prim{3: list(put("b", 21, "", "y"))}},
		// One passes what was put behind as that is then: it is passed by one that stays, and then hinders one behind that, or doesn't.
		{story(list(put("a", 5, "", "x")), list(put("a", 0, "", "v v")), list(put("a", 7, "x", ""))), []int{0}, "1", "0 2", map[int][]api.Prim{0: list(put("a", 7, "", "x"))}},
		{story(list(put("a", 5, "", "x")), list(put("a", 0, "", "v v")), list(put("a", 5, "z", ""))), []int{0}, "1 2", "0", map[int][]api.Prim{0: list(put("a", 6, "", "x"))}},
		// One that passes some of those that were put behind, and then can't pass one ahead of them, is put behind as it was, and so are they.
		{story(list(put("a", 0, "", "x")), list(put("b", 5, "", "x")), list(put("b", 0, "", "v v"), put("a", 1, "", "y"))), []int{0, 1}, "", "0 1 2", nil},
		{story(list(put("a", 0, "", "x")), list(put("b", 5, "", "x")), list(put("b", 9, "", "v v"), put("a", 1, "", "y")), list(put("b", 20, "", "z"))), []int{0, 1}, "3", "0 1 2", map[int][]api.Prim{3: list(put("b", 17, "", "z"))}},
		{story(list(add("a")), list(move("a", "b")), list(put("b", 0, "", "x"))), []int{0, 1}, "", "0 1 2", nil}, {story(list(add("a")), list(move("a", "b")), list(put("b", 0, "", "x"))), []int{0}, "", "0 1 2", nil},
		// Patches without changes, of ids and not.
		{story(nil, list(add("a")), nil), []int{1}, "0 2", "1", nil}, {story(nil, list(add("a")), list()), []int{0, 2}, "1", "0 2", nil}, {story(nil, nil, nil), []int{1}, "0 2", "1", nil},
		{story(list(put("a", 5, "", "y")), nil, list(put("a", 0, "", "x"))), []int{0, 1}, "2", "0 1", map[int][]api.Prim{0: list(put("a", 6, "", "y"))}},
		// Such as may not be.
		{odd(), nil, "0 1 2 3", "", nil}, {odd(), []int{0}, "2", "0 1 3", nil}, {odd(), []int{1}, "0 2", "1 3", nil}, {odd(), []int{2}, "0 1 3", "2", nil}, {odd(), []int{3}, "0 1 2", "3", nil}, {odd(), []int{0, 1, 2, 3}, "", "0 1 2 3", nil},
	} {
		c.hold(t, Part)
	}
}

// P16.2: what is picked, and the rest, and as what.
func TestPick(t *testing.T) {
	for _, c := range []cut{
		// No patches; one; no ids; ids that are not there; one twice.
		{nil, nil, "", "", nil}, {nil, []int{-1}, "", "", nil}, {[]api.Named{}, []int{-1, -1}, "", "", nil},
		{three()[:1], nil, "", "0", nil}, {three()[:1], []int{-1}, "", "0", nil}, {three()[:1], []int{0}, "0", "", nil}, {three()[:1], []int{0, 0}, "0", "", nil}, {three()[:1], []int{-1, 0, -1}, "0", "", nil},
		{three(), nil, "", "0 1 2", nil}, {three(), []int{-1}, "", "0 1 2", nil},
		// The first one's, one between, the last one's; some; all; in any order, and more often than once.
		{three(), []int{0}, "0", "1 2", nil}, {three(), []int{1}, "1", "0 2", nil}, {three(), []int{2}, "2", "0 1", nil},
		{three(), []int{0, 1}, "0 1", "2", nil}, {three(), []int{1, 2}, "1 2", "0", nil}, {three(), []int{0, 2}, "0 2", "1", nil}, {three(), []int{2, 0}, "0 2", "1", nil}, {three(), []int{2, 0, -1, 2, 0}, "0 2", "1", nil},
		{three(), []int{0, 1, 2}, "0 1 2", "", nil}, {three(), []int{2, 1, 0, 0}, "0 1 2", "", nil},
		// One on which one hangs, and one on which that hangs.
		{chain(), []int{0}, "0", "1 2 3 4", nil}, {chain(), []int{1}, "0 1", "2 3 4", nil}, {chain(), []int{2}, "2", "0 1 3 4", nil}, {chain(), []int{3}, "0 1 3", "2 4", nil}, {chain(), []int{4}, "2 4", "0 1 3", nil},
		{chain(), []int{3, 4}, "0 1 2 3 4", "", nil}, {chain(), []int{4, 1}, "0 1 2 4", "3", nil}, {chain(), []int{0, 3}, "0 1 3", "2 4", nil},
		// One that is picked is another one then: ahead of one, ahead of more; each of some.
		{story(list(put("a", 0, "", "x")), list(put("a", 5, "", "y"))), []int{1}, "1", "0", map[int][]api.Prim{1: list(put("a", 4, "", "y"))}},
		{story(list(put("a", 0, "", "x")), list(put("a", 5, "", "y")), list(put("a", 9, "", "z"))), []int{2}, "2", "0 1", map[int][]api.Prim{2: list(put("a", 7, "", "z"))}},
		{story(list(put("a", 0, "", "x")), list(put("a", 5, "", "y")), list(put("a", 9, "", "z"))), []int{1, 2}, "1 2", "0", map[int][]api.Prim{1: list(put("a", 4, "", "y")), 2: list(put("a", 8, "", "z"))}},
		{story(list(add("a")), list(move("a", "b")), list(put("b", 0, "", "x"))), []int{2}, "0 2", "1", map[int][]api.Prim{2: list(put("a", 0, "", "x"))}},
		// One that is not picked is another one then: behind one, behind more; each of some.
		{story(list(put("a", 9, "", "x")), list(put("a", 0, "", "v v"))), []int{1}, "1", "0", map[int][]api.Prim{0: list(put("a", 11, "", "x"))}},
		{story(list(put("a", 5, "", "x")), list(put("a", 0, "", "v v")), list(put("a", 0, "", "w"))), []int{1, 2}, "1 2", "0", map[int][]api.Prim{0: list(put("a", 8, "", "x"))}},
		{story(list(put("a", 7, "", "y")), list(put("a", 5, "", "x")), list(put("a", 0, "", "v v"))), []int{2}, "2", "0 1", map[int][]api.Prim{0: list(put("a", 9, "", "y")), 1: list(put("a", 7, "", "x"))}},
		// They pass it from the first one on: the move first.
		{story(list(put("a", 5, "", "x")), list(move("a", "b")), list(put("b", 0, "", "y"))), []int{1, 2}, "1 2", "0", map[int][]api.Prim{0: list(put("b", 6, "", "x"))}},
		{story(list(put("b", 0, "", "x")), list(put("b", 9, "y", ""), move("b", "a")), list(put("a", 4, "", "z"), add("b"))), []int{2}, "1 2", "0", map[int][]api.Prim{0: list(put("a", 0, "", "x")), 1: list(put("b", 8, "y", ""), move("b", "a")), 2: list(put("a", 3, "", "z"), add("b"))}},
		// Those that are not picked stand ahead of one another as they stood, and are passed only by what is picked.
		{story(list(add("a")), list(put("b", 7, "", "x")), list(put("a", 0, "", "x")), list(put("b", 3, "", "y")), list(put("a", 0, "x", "z"))), []int{3}, "3", "0 1 2 4", map[int][]api.Prim{1: list(put("b", 8, "", "x"))}},
		// One that the first ones of those picked pass, but not one behind them, is picked as it was, and so are they.
		{story(list(put("b", 0, "", "x"), put("a", 0, "", "x")), list(put("b", 5, "", "v")), list(put("a", 1, "", "y"))), []int{1, 2}, "0 1 2", "", nil},
		{story(list(put("b", 9, "", "w")), list(put("b", 0, "", "x"), put("a", 0, "", "x")), list(put("b", 5, "", "v")), list(put("a", 1, "", "y"))), []int{2, 3}, "1 2 3", "0", map[int][]api.Prim{0: list(put("b", 11, "", "w"))}},
		{story(list(add("a")), list(move("a", "b")), list(put("b", 0, "", "x"))), []int{1, 2}, "0 1 2", "", nil}, {story(list(add("a")), list(move("a", "b")), list(put("b", 0, "", "x"))), []int{1}, "0 1", "2", nil},
		// Patches without changes, of ids and not.
		{story(nil, list(add("a")), nil), []int{1}, "1", "0 2", nil}, {story(nil, list(add("a")), list()), []int{0, 2}, "0 2", "1", nil}, {story(nil, nil, nil), []int{1}, "1", "0 2", nil},
		{story(list(put("a", 5, "", "y")), nil, list(put("a", 0, "", "x"))), []int{1, 2}, "1 2", "0", map[int][]api.Prim{0: list(put("a", 6, "", "y"))}},
		// Such as may not be.
		{odd(), nil, "", "0 1 2 3", nil}, {odd(), []int{0}, "0", "1 2 3", nil}, {odd(), []int{1}, "0 1", "2 3", nil}, {odd(), []int{2}, "2", "0 1 3", nil}, {odd(), []int{3}, "0 1 3", "2", nil}, {odd(), []int{0, 1, 2, 3}, "0 1 2 3", "", nil},
	} {
		c.hold(t, Pick)
	}
}

// P16.3: the Ids of patches, in order, whatever else they have.
func TestIds(t *testing.T) {
	for _, want := range [][]api.Id{nil, {}, ids(3, 5), ids(0, 1, 0, 2, 1, 1), ids(7, 9, 0, 1, 3, 3), ids(1, 1, 1, 1, 2, 2, 1, 1), ids(0, 0, -1, 5, 8, full+1, math.MinInt, math.MaxInt), counted(60, 4, 1), counted(1<<16, 1, -9)} {
		var l []api.Named
		for k, i := range want {
			l = append(l, api.Named{Id: i, Deps: ids(9, k), Text: of(k%5, "t"), L: [][]api.Prim{nil, list(add("a"))}[k%2]})
		}
		if got := Ids(l); !slices.Equal(got, want) {
			t.Errorf("%s: %s", short(want), short(got))
		}
	}
	if len(Ids(nil)) != 0 || !slices.Equal(Ids(make([]api.Named, 3)), make([]api.Id, 3)) {
		t.Error("of none, or of noughts")
	}
}

// linked are n patches whose changes pass one another, each with the Deps that are told.
func linked(n int, deps map[int][]int) []api.Named {
	var l []api.Named
	for k := range n {
		l = append(l, api.Named{Id: id(k%8, 10+k/8), Text: fmt.Sprint("t", k), L: list(add(fmt.Sprint("f", k)))})
	}
	for k, on := range deps {
		l[k].Deps = idsOf(l, on...)
	}
	return l
}

// P16.1, P16.2: patches that hang on others by their Deps.
func TestDeps(t *testing.T) {
	for _, c := range []struct {
		l                        []api.Named
		ids                      []int
		stay, gone, picked, rest string
	}{
		// One on another one, ahead of it, next to it and apart; alone, and beside others.
		{linked(3, map[int][]int{1: {0}}), []int{0}, "2", "0 1", "0", "1 2"}, {linked(3, map[int][]int{1: {0}}), []int{1}, "0 2", "1", "0 1", "2"}, {linked(3, map[int][]int{1: {0}}), []int{2}, "0 1", "2", "2", "0 1"},
		{linked(3, map[int][]int{2: {-1, 0, -1}}), []int{0}, "1", "0 2", "0", "1 2"}, {linked(3, map[int][]int{2: {0, 0}}), []int{2}, "0 1", "2", "0 2", "1"}, {linked(3, map[int][]int{2: {0, 1}}), []int{1}, "0", "1 2", "1", "0 2"}, {linked(3, map[int][]int{2: {1, 0}}), []int{2}, "0 1", "2", "0 1 2", ""},
		// One that hangs on one that hangs; two on one; one on two.
		{linked(5, map[int][]int{1: {0}, 3: {1}}), []int{0}, "2 4", "0 1 3", "0", "1 2 3 4"}, {linked(5, map[int][]int{1: {0}, 3: {1}}), []int{3}, "0 1 2 4", "3", "0 1 3", "2 4"}, {linked(5, map[int][]int{1: {0}, 3: {1}}), []int{1}, "0 2 4", "1 3", "0 1", "2 3 4"},
		{linked(5, map[int][]int{2: {1}, 4: {1}}), []int{1}, "0 3", "1 2 4", "1", "0 2 3 4"}, {linked(5, map[int][]int{2: {1}, 4: {1}}), []int{4}, "0 1 2 3", "4", "1 4", "0 2 3"}, {linked(5, map[int][]int{3: {0, 2}}), []int{3}, "0 1 2 4", "3", "0 2 3", "1 4"}, {linked(5, map[int][]int{3: {0, 2}}), []int{2}, "0 1 4", "2 3", "2", "0 1 3 4"},
		// On one behind it, on itself, on one that is not there: that is no hindrance.
		{linked(3, map[int][]int{0: {2}}), []int{0}, "1 2", "0", "0", "1 2"}, {linked(3, map[int][]int{0: {2}}), []int{2}, "0 1", "2", "2", "0 1"}, {linked(3, map[int][]int{0: {1, 2}, 1: {2}}), []int{1, 2}, "0", "1 2", "1 2", "0"},
		{linked(3, map[int][]int{0: {0}, 1: {1}, 2: {2}}), []int{1}, "0 2", "1", "1", "0 2"}, {linked(3, map[int][]int{0: {-1}, 1: {-1}, 2: {-1}}), []int{-1, 1}, "0 2", "1", "1", "0 2"},
		// On one another.
		{linked(3, map[int][]int{0: {2}, 2: {0}}), []int{0}, "1", "0 2", "0", "1 2"}, {linked(3, map[int][]int{0: {2}, 2: {0}}), []int{2}, "0 1", "2", "0 2", "1"},
		// One that passes the last ones, and then hangs on the first one; all hang on it.
		{linked(4, map[int][]int{3: {0}}), []int{0, 1, 2}, "", "0 1 2 3", "0 1 2", "3"}, {linked(4, map[int][]int{3: {0}}), []int{1, 2, 3}, "0", "1 2 3", "0 1 2 3", ""}, {linked(4, map[int][]int{1: {0}, 2: {0}, 3: {0}}), []int{0}, "", "0 1 2 3", "0", "1 2 3"}, {linked(4, map[int][]int{3: {0, 1, 2}}), []int{3}, "0 1 2", "3", "0 1 2 3", ""},
	} {
		cut{c.l, c.ids, c.stay, c.gone, nil}.hold(t, Part)
		cut{c.l, c.ids, c.picked, c.rest, nil}.hold(t, Pick)
	}
	// By changes and by Deps, one behind the other, and of one that is another one then.
	l := story(list(put("a", 0, "", "x")), list(put("a", 5, "", "y")), list(put("a", 4, "z", "")), list(add("b")))
	l[3].Deps = idsOf(l, 2)
	cut{l, []int{1}, "0", "1 2 3", nil}.hold(t, Part)
	cut{l, []int{3}, "1 2 3", "0", map[int][]api.Prim{1: list(put("a", 4, "", "y")), 2: list(put("a", 3, "z", ""))}}.hold(t, Pick)
}

// P16.1, P16.2: two of one Id, and more; of ids, and not, and such as others hang on.
func TestSameId(t *testing.T) {
	for _, c := range []struct {
		deps                     map[int][]int
		ids                      []int
		stay, gone, picked, rest string
	}{
		{nil, nil, "0 1 2 3", "", "", "0 1 2 3"}, {nil, []int{0}, "1 3", "0 2", "0 2", "1 3"}, {nil, []int{2, 0}, "1 3", "0 2", "0 2", "1 3"}, {nil, []int{1}, "0 2 3", "1", "1", "0 2 3"}, {nil, []int{3, 0}, "1", "0 2 3", "0 2 3", "1"},
		{map[int][]int{1: {0}}, []int{0}, "3", "0 1 2", "0 2", "1 3"}, {map[int][]int{1: {0}}, []int{1}, "0 2 3", "1", "0 1", "2 3"}, {map[int][]int{3: {0}}, []int{3}, "0 1 2", "3", "0 2 3", "1"}, {map[int][]int{3: {2}}, []int{2}, "1", "0 2 3", "0 2", "1 3"},
		// One hangs on its own Id: that is the other one's, too.
		{map[int][]int{0: {0}}, []int{1}, "0 2 3", "1", "1", "0 2 3"}, {map[int][]int{2: {0}}, []int{1}, "0 2 3", "1", "1", "0 2 3"}, {map[int][]int{0: {-1}, 2: {0, 1}}, []int{1}, "0 3", "1 2", "1", "0 2 3"},
		{map[int][]int{2: {0}, 3: {2}}, []int{3}, "0 1 2", "3", "0 2 3", "1"}, {map[int][]int{3: {1}, 1: {0}}, []int{3}, "0 1 2", "3", "0 1 3", "2"},
	} {
		for _, i := range ids(5, 5, 0, 0, -1, 7, math.MaxInt, math.MinInt) {
			l := linked(4, nil)
			l[0].Id, l[2].Id = i, i
			for k, on := range c.deps {
				l[k].Deps = idsOf(l, on...)
			}
			cut{l, c.ids, c.stay, c.gone, nil}.hold(t, Part)
			cut{l, c.ids, c.picked, c.rest, nil}.hold(t, Pick)
		}
	}
	// One patch many times; noughts, which have one Id.
	p := api.Named{Id: id(1, 1), L: list(put("a", 0, "", "x"))}
	cut{[]api.Named{p, p, p}, []int{1}, "", "0 1 2", nil}.hold(t, Part)
	cut{[]api.Named{p, p, p}, []int{1}, "0 1 2", "", nil}.hold(t, Pick)
	cut{[]api.Named{p, p, p}, []int{-1}, "0 1 2", "", nil}.hold(t, Part)
	cut{make([]api.Named, 3), []int{-1}, "0 1 2", "", nil}.hold(t, Part)
	cut{make([]api.Named, 3), []int{0}, "0 1 2", "", nil}.hold(t, Pick)
}

// P16.1, P16.2: one Id that is nearly another one: only the same Who and the same No are one of ids, or one of Deps.
func TestNearlyTheId(t *testing.T) {
	l := linked(3, nil)
	l[0].Id, l[1].Id, l[2].Id = id(3, 5), id(3, 5+1<<32), id(5, 3)
	near := ids(3, 4, 3, 6, 2, 5, 4, 5, 3, 0, 0, 5, -3, 5, 3, -5, 3+1<<32, 5, 3, 15, 3, 55, 33, 5, 11, 5, 0, 0)
	stay, gone := Part(l, near)
	picked, rest := Pick(l, near)
	if showAll(stay) != showAll(l) || len(gone) != 0 || len(picked) != 0 || showAll(rest) != showAll(l) {
		t.Errorf("%v, %v, %v, %v", stay, gone, picked, rest)
	}
	l[2].Deps = near
	for k := range near {
		all := slices.Insert(slices.Clone(near), k, id(3, 5))
		stay, gone := Part(l, all)
		picked, rest := Pick(l, all)
		if showAll(stay) != showAll(l[1:]) || showAll(gone) != showAll(l[:1]) || showAll(picked) != showAll(l[:1]) || showAll(rest) != showAll(l[1:]) {
			t.Errorf("%v: %v, %v, %v, %v", all, stay, gone, picked, rest)
		}
	}
	check(t, l, near)
	check(t, l, l[2].Deps[:1])
}

// P16.1, P16.2, P4: as many patches as there may be, each of which hangs on the one ahead of it, or all on the first one, or the last one on all, by changes, and by Deps.
func TestHangOnMany(t *testing.T) {
	row, star, bundle := linked(60, nil), linked(60, nil), linked(60, nil)
	lines, byChanges := story(list(add("a"))), linked(60, nil)
	for k := 1; k < 60; k++ {
		row[k].Deps, star[k].Deps, bundle[59].Deps = idsOf(row, k-1), idsOf(star, 0), append(bundle[59].Deps, bundle[k-1].Id)
		lines = append(lines, api.Named{Id: id(k%8, 10+k/8), L: list(put("a", k-1, "", "x"))})
		byChanges[k].L = list(put("f0", 3*k, "", "x"))
	}
	for k := range 60 {
		for _, c := range []struct {
			l            []api.Named
			gone, picked int
		}{
			{row, 60 - k, k + 1}, {lines, 60 - k, k + 1}, {star, max(1, 60*(1-k)), min(2, k+1)}, {byChanges, max(1, 60*(1-k)), min(2, k+1)}, {bundle, min(2, 60-k), max(1, 60*(k-58))},
		} {
			stays, goes := checkPart(t, c.l, idsOf(c.l, k))
			picks, rests := checkPick(t, c.l, idsOf(c.l, k))
			if len(goes) != c.gone || len(picks) != c.picked || len(stays) != 60-c.gone || len(rests) != 60-c.picked {
				t.Errorf("%s, %d: %v, %v, %v, %v", short(c.l), k, stays, goes, picks, rests)
			}
		}
	}
}

// P16.1 to P16.4: all lists of at most three of some patches, whether they fit or not, and all of ids that there may be of them; and where one hangs on another one by Deps.
func TestAllSmall(t *testing.T) {
	few := [][]api.Prim{
		nil, list(add("a")), list(move("a", "b")), list(put("a", 0, "", "x")), list(put("a", 2, "y", "")), list(put("b", 1, "", "x y")), list(set("b", "x", "y")),
		list(put("a", 5, "", "z"), move("b", "c")), list(put("b", 4, "y z", ""), add("d")), list(add("A")),
	}
	hung, others := [4]int{}, [4]int{}
	try := func(l []api.Named) {
		for n := range 1 << len(l) {
			h, o := check(t, l, chosenOf(l, n))
			if h {
				hung[len(l)]++
			}
			if o {
				others[len(l)]++
			}
		}
		for k := 1; k < len(l); k++ {
			l[k].Deps = []api.Id{id(0, 1), l[k-1].Id}
			check(t, l, idsOf(l, 0))
			check(t, l, idsOf(l, len(l)-1))
		}
	}
	try(nil)
	for _, a := range few {
		try(story(a))
		for _, b := range few {
			try(story(a, b))
			for _, c := range few {
				try(story(a, b, c))
			}
		}
	}
	if hung[2] < 50 || hung[3] < 3000 || others[2] < 20 || others[3] < 800 {
		t.Errorf("only %d hang, and %d are others", hung, others)
	}
}

// P16.4: all stories of four of some changes on some trees, each a patch, or two one patch, and all of ids.
func TestSameOnAllSmallTrees(t *testing.T) {
	few := list(
		add("a"), rm("c"), move("a", "b"), move("b", "a"), put("a", 0, "", "x"), put("a", 2, "y", ""), put("a", 4, "", "y z"), put("b", 1, "x", "y"), put("b", 3, "x", ""), set("b", "x x", ""),
	)
	hung, others, joined := 0, 0, 0
	try := func(x api.Tree, l []api.Named) {
		for n := range 1 << len(l) {
			if !checkTree(t, x, l, chosenOf(l, n)) {
				t.Fatalf("%s, %s: is not changed", short(x), short(l))
			}
			h, o := check(t, l, chosenOf(l, n))
			if h {
				hung++
			}
			if o {
				others++
			}
		}
	}
	var tell func(x, now api.Tree, told [][]api.Prim)
	tell = func(x, now api.Tree, told [][]api.Prim) {
		if try(x, story(told...)); len(told) == 4 {
			joined++
			k := joined % 3
			try(x, story(slices.Concat(told[:k], [][]api.Prim{slices.Concat(told[k], told[k+1])}, told[k+2:])...))
			return
		}
		for _, p := range few {
			if next, e := prim.Apply(now, p); e == api.OK {
				tell(x, next, append(slices.Clone(told), list(p)))
			}
		}
	}
	for _, x := range []api.Tree{{file("b", "x x")}, {file("a", "x z y z x"), file("b", "x x z x x")}, {file("b", "x x x x x"), file("c", "")}} {
		tell(x, x, nil)
	}
	if hung < 3000 || others < 3000 {
		t.Errorf("only %d hang, and %d are others", hung, others)
	}
}

// fit is a change that fits a tree, as next chooses it: a number from 0 on, below the one that it is given.
func fit(x api.Tree, next func(int) int) api.Prim {
	free := slices.DeleteFunc(words("a b c d e f"), func(s string) bool {
		return slices.ContainsFunc(x, func(f api.File) bool { return f.Name == s })
	})
	what := next(12)
	if len(x) == 0 || what == 0 && len(free) > 0 {
		return add(free[next(len(free))])
	}
	f := x[next(len(x))]
	if what <= 2 && len(free) > 0 {
		return move(f.Name, free[next(len(free))])
	}
	if what == 3 && len(f.Lines) == 0 {
		return rm(f.Name)
	}
	now := numbered(50)[next(50):][:next(3)%2]
	if what == 4 && len(f.Lines) < 100 {
		return with(set(f.Name, "", ""), api.Hunk{Old: slices.Clone(f.Lines), New: append(slices.Clone(f.Lines), now...)})
	}
	from := next(len(f.Lines) + 1)
	old := f.Lines[from:][:next(min(3, len(f.Lines)-from+1))]
	return with(put(f.Name, 0, "", ""), api.Hunk{At: from, Old: slices.Clone(old), New: slices.Clone(now)})
}

// told are n patches, one behind the other, that change a tree, and what that is then; some hang by Deps on some ahead of them, or behind.
func told(x api.Tree, n int, next func(int) int) ([]api.Named, api.Tree) {
	var l []api.Named
	for k := range n {
		p := api.Named{Id: id(k%8, k+1), Text: fmt.Sprint("t", next(9))}
		for range next(3) * next(2) {
			other := next(3 * n)
			p.Deps = append(p.Deps, id(other%8, other+1))
		}
		for range next(4) {
			q := fit(x, next)
			y, e := prim.Apply(x, q)
			if e != api.OK {
				break
			}
			p.L, x = append(p.L, q), y
		}
		l = append(l, p)
	}
	return l, x
}

// begin is the tree that longer stories begin with.
func begin(n int) api.Tree {
	return api.Tree{{Name: "a", Lines: numbered(n)}, {Name: "c", Lines: numbered(n * 3 / 4)}, {Name: "e"}}
}

// P16.1 to P16.4: longer stories, of which some hang on others by Deps; by a fixed seed.
func TestStories(t *testing.T) {
	chance := rand.New(rand.NewPCG(16, 1))
	start := begin(40)
	hung, others := 0, 0
	for range 1200 {
		l, _ := told(start, 2+chance.IntN(9), chance.IntN)
		for range 3 {
			ids := chosenOf(l, chance.IntN(1<<len(l))&chance.IntN(1<<len(l)))
			h, o := check(t, l, ids)
			if h {
				hung++
			}
			if o {
				others++
			}
			if !checkTree(t, start, l, ids) {
				t.Errorf("%s: is not changed", short(l))
			}
		}
		if t.Failed() {
			return
		}
	}
	if hung < 1500 || others < 1000 {
		t.Errorf("only %d hang, and %d are others", hung, others)
	}
}

// P16.4: lists that are cut in two, joined, and cut again, many times, always make the same of a tree, and have the same patches.
func TestCutAndJoined(t *testing.T) {
	chance := rand.New(rand.NewPCG(16, 2))
	start := begin(40)
	others := 0
	for range 300 {
		l, end := told(start, 8, chance.IntN)
		heads := func(l []api.Named) (s []string) {
			for _, p := range l {
				s = append(s, showHead(p))
			}
			slices.Sort(s)
			return s
		}
		was, first := heads(l), showAll(l)
		for range 10 {
			ids := chosenOf(l, chance.IntN(256)&chance.IntN(256))
			ahead, behind := Part(l, ids)
			if chance.IntN(2) == 0 {
				ahead, behind = Pick(l, ids)
			}
			l = slices.Concat(ahead, behind)
			if now, e := toldApply(start, l); e != 0 || showTree(now) != showTree(end) || !slices.Equal(heads(l), was) {
				t.Fatalf("%s: %s, error %d, not %s", short(l), short(now), e, short(end))
			}
		}
		if showAll(l) != first {
			others++
		}
	}
	if others < 200 {
		t.Errorf("only %d are others", others)
	}
}

// P16.1 to P16.4, R1: as many patches as there may be, of many changes; more than there may be.
func TestMany(t *testing.T) {
	var l, want []api.Named
	for k := range 60 {
		p := api.Named{Id: id(k%8, k+1), Deps: counted(60, 7, 100), Text: of(80, "t"), L: slices.Repeat(list(put("a", 0, "", "x")), 10)}
		if l = append(l, p); k%2 == 1 {
			l[k].L = list(put("a", 1005, "", "y"), put("a", 1000, "z", ""))
			p.L = list(put("a", 1005-10*(k+1)/2, "", "y"), put("a", 1000-10*(k+1)/2, "z", ""))
			want = append(want, p)
		}
	}
	odd := Ids(want)
	even := slices.DeleteFunc(Ids(l), func(i api.Id) bool { return has(odd, i) })
	stay, gone := Part(l, even)
	picked, rest := Pick(l, odd)
	if showAll(stay) != showAll(want) || showAll(picked) != showAll(want) || len(gone) != 30 || showAll(rest) != showAll(gone) {
		t.Errorf("%s, %s, %s, %s", short(stay), short(gone), short(picked), short(rest))
	}
	for k, p := range gone {
		if show(p) != show(l[2*k]) {
			t.Errorf("%d is %s", k, short(p))
		}
	}
	check(t, l, even)
	check(t, l, odd)
	check(t, l, odd[7:9])
	if t.Failed() {
		return
	}
	// Two of 200 changes each, and one more.
	full := story(slices.Repeat(list(put("a", 0, "", "x")), 200), slices.Repeat(list(put("b", 3, "", "x"), put("a", 900, "y", "")), 100), list(put("a", 800, "z", "v"), move("b", "c")))
	check(t, full, idsOf(full, 0))
	check(t, full, idsOf(full, 0, 1))
	check(t, full, idsOf(full, 2))
	manyIds := append(counted(1<<18, 9, 0), Ids(l)...)
	if stay, gone := Part(l, manyIds); len(stay) != 0 || showAll(gone) != showAll(l) {
		t.Error("many ids: not all are put behind")
	}
	if picked, rest := Pick(l, manyIds); showAll(picked) != showAll(l) || len(rest) != 0 {
		t.Error("many ids: not all are picked")
	}
	noughts := make([]api.Named, 1<<15)
	noughts[0].Id, noughts[len(noughts)-1].Id = id(1, 1), id(1, 1)
	for _, x := range []struct {
		ids []api.Id
		n   int
	}{{nil, 0}, {ids(0, 0), 1<<15 - 2}, {ids(1, 1, 1, 1), 2}, {ids(0, 0, 1, 1), 1 << 15}} {
		stay, gone := Part(noughts, x.ids)
		picked, rest := Pick(noughts, x.ids)
		if len(gone) != x.n || len(picked) != x.n || len(stay)+len(gone) != 1<<15 || len(picked)+len(rest) != 1<<15 {
			t.Errorf("%v: %d, %d, %d, %d", x.ids, len(stay), len(gone), len(picked), len(rest))
		}
	}
	huge := api.Named{Deps: make([]api.Id, 1<<20), Text: of(1<<20, "x"), L: make([]api.Prim, 1<<17)}
	hangs := huge
	hangs.Id = id(1, 1)
	if stay, gone := Part([]api.Named{huge, hangs, {Id: id(2, 2)}}, ids(0, 0)); len(stay) != 1 || len(gone) != 2 || len(gone[1].L) != 1<<17 || len(gone[0].Deps) != 1<<20 {
		t.Error("huge ones are not put behind")
	}
	if picked, rest := Pick([]api.Named{{Id: id(2, 2)}, huge, hangs}, ids(1, 1)); len(rest) != 1 || len(picked) != 2 || len(picked[0].L) != 1<<17 || len(picked[1].Deps) != 1<<20 {
		t.Error("huge ones are not picked")
	}
}

// chosen is a patch of whatever next chooses, that may be or not.
func chosen(next func(int) int) api.Named {
	some := []int{0, 1, 2, 7, 8, -1, full, full + 1, math.MaxInt, math.MinInt}
	number := func() int { return some[next(next(len(some))+1)] }
	p := api.Named{Id: id(number(), number()), Text: []string{"", "t", of(80, "t"), of(81, "t"), "t\n", "\n"}[next(next(6)+1)]}
	for range next(4) {
		p.Deps = append(p.Deps, id(number(), number()))
	}
	for range next(4) {
		if next(20) == 0 {
			p.L = append(p.L, wrong()[next(len(wrong()))])
		} else {
			p.L = append(p.L, fair()[next(len(fair()))])
		}
	}
	return p
}

// chosenIds are some of patches, and some that are not there.
func chosenIds(l []api.Named, next func(int) int) []api.Id {
	var out []api.Id
	for range next(4) {
		if len(l) == 0 || next(4) == 0 {
			out = append(out, chosen(next).Id)
		} else {
			out = append(out, l[next(len(l))].Id)
		}
	}
	return out
}

// R1: whatever is given, nothing panics.
func TestWhateverIsGiven(t *testing.T) {
	chance := rand.New(rand.NewPCG(16, 3))
	hung, others := 0, 0
	for range 8000 {
		var l []api.Named
		for range chance.IntN(6) {
			l = append(l, chosen(chance.IntN))
		}
		h, o := check(t, l, chosenIds(l, chance.IntN))
		if h {
			hung++
		}
		if o {
			others++
		}
		if t.Failed() {
			return
		}
	}
	if hung < 1500 || others < 100 {
		t.Errorf("only %d hang, and %d are others", hung, others)
	}
}

// markedLines is l with room behind it, in which a write is seen; so are marked patches, with their Deps, changes and lines.
func markedLines(l []string) []string { return append(slices.Clone(l), "mark", "mark")[:len(l)] }

func marked(l []api.Named) []api.Named {
	out := append(slices.Clone(l), api.Named{Text: "mark"}, api.Named{Text: "mark"})[:len(l)]
	for k, p := range l {
		out[k].Deps = append(slices.Clone(p.Deps), id(99, 99), id(99, 99))[:len(p.Deps)]
		out[k].L = append(slices.Clone(p.L), add("mark"), add("mark"))[:len(p.L)]
		for n, q := range p.L {
			out[k].L[n].H.Old, out[k].L[n].H.New = markedLines(q.H.Old), markedLines(q.H.New)
		}
	}
	return out
}

// wide shows all of marked patches, with the room behind whatever they have.
func wide(l []api.Named) string {
	l = copiedRoom(l)
	for k, p := range l {
		l[k].Deps, l[k].L = room(p.Deps), copiedRoom(p.L)
		for n, q := range l[k].L[:len(p.L)] {
			l[k].L[n].H.Old, l[k].L[n].H.New = room(q.H.Old), room(q.H.New)
		}
	}
	return showAll(l)
}

// room is a list with what stands in the two places behind it, if it has such; copiedRoom the same in memory of its own.
func room[T any](l []T) []T { return l[:min(cap(l), len(l)+2)] }

func copiedRoom[T any](l []T) []T { return slices.Clone(room(l)) }

// spoilAll writes over a list, and over the room behind it; spoil over all that a patch has, spoilPatches over patches.
func spoilAll[T any](l []T, with T) {
	l = l[:cap(l)]
	for k := range l {
		l[k] = with
	}
}

func spoil(p api.Named) {
	for _, q := range p.L {
		spoilAll(q.H.Old, "spoilt")
		spoilAll(q.H.New, "spoilt")
	}
	spoilAll(p.L, api.Prim{Kind: 9, Name: "spoilt"})
	spoilAll(p.Deps, id(-7, -7))
}

func spoilPatches(l []api.Named) {
	for _, p := range l {
		spoil(p)
	}
	spoilAll(l, api.Named{Text: "spoilt"})
}

// checkApart holds, of patches that are answered, that none of their Deps, changes and lines share memory.
func checkApart(t *testing.T, what string, l []api.Named) {
	t.Helper()
	var lines, was [][]string
	for _, p := range l {
		for _, q := range p.L {
			lines = append(lines, q.H.Old, q.H.New)
			was = append(was, slices.Clone(q.H.Old), slices.Clone(q.H.New))
		}
	}
	for k, some := range lines {
		spoilAll(some, "spoilt")
		for n := k + 1; n < len(lines); n++ {
			if !slices.Equal(lines[n], was[n]) {
				t.Fatalf("%s: lists of lines %d and %d of what is answered are shared", what, k, n)
			}
		}
	}
	for k, p := range l {
		left := showAll(l[k+1:])
		spoil(p)
		if showAll(l[k+1:]) != left {
			t.Fatalf("%s: the Deps, or the changes, of patch %d of what is answered are shared", what, k)
		}
	}
}

// roomy is a list with room behind it, in which a write is seen.
func roomy(l []api.Id) []api.Id { return append(slices.Clone(l), id(99, 99), id(99, 99))[:len(l)] }

// checkOwn holds R3: what is handed in stays, its room too, and what is answered shares nothing with that, nor within itself.
func checkOwn(t *testing.T, l []api.Named, ids []api.Id) {
	t.Helper()
	in, which := marked(l), roomy(ids)
	was, wasWhich := wide(in), slices.Clone(room(which))
	stays := func(what string) {
		t.Helper()
		if wide(in) != was || !slices.Equal(room(which), wasWhich) {
			t.Fatalf("%s, %s: what was handed in is now %s, %s: %s", short(l), short(ids), short(in), short(which), what)
		}
	}
	stay, gone := Part(in, which)
	picked, rest := Pick(in, which)
	all := Ids(in)
	stays("changed")
	answers := [][]api.Named{stay, gone, picked, rest}
	want := []string{showAll(stay), showAll(gone), showAll(picked), showAll(rest), fmt.Sprint(Ids(l))}
	again := func() []string {
		return []string{showAll(stay), showAll(gone), showAll(picked), showAll(rest), fmt.Sprint(all)}
	}
	spoilAll(which, id(-7, -7))
	spoilPatches(in)
	if !slices.Equal(again(), want) {
		t.Fatalf("%s, %s: what was answered is then %s", short(l), short(ids), short(again()))
	}
	in, which = marked(l), roomy(ids)
	checkApart(t, short(l), slices.Concat(answers...))
	// Each list, too, is the caller's own.
	stay, gone = Part(in, which)
	picked, rest = Pick(in, which)
	all = Ids(in)
	for k, answer := range [][]api.Named{stay, gone, picked, rest} {
		spoilPatches(answer)
		if left := again()[k+1:]; !slices.Equal(left, want[k+1:]) {
			t.Fatalf("%s, %s: list %d of what is answered shares something with the others: %s", short(l), short(ids), k, short(left))
		}
	}
	spoilAll(all, id(-7, -7))
	stays("shared with what is answered")
}

// R3: patches that are put behind, or picked, and such that are not, such as may not be, such without changes and without Deps, and none.
func TestNothingIsShared(t *testing.T) {
	few := [][]api.Prim{
		nil, list(), list(add("a")), list(put("a", 0, "", "x y"), put("a", 9, "x", "")), list(put("b", 20, "x y", "z v")), list(move("a", "c"), set("d", "x", "y z")), list(put("b", 7, "", "")),
		list(with(put("b", 30, "", ""), api.Hunk{At: 30, Old: []string{}, New: []string{}})), list(api.Prim{Kind: 5, Name: "a", H: api.Hunk{Old: words("x y"), New: words("z")}}), fair(),
	}
	own := func(l []api.Named) {
		t.Helper()
		for n := range 1 << len(l) {
			checkOwn(t, l, chosenOf(l, n))
		}
	}
	checkOwn(t, nil, nil)
	checkOwn(t, nil, ids(0, 1))
	for _, a := range few {
		own(story(a))
		for _, b := range few {
			own(story(a, b))
			for _, c := range few[2:8] {
				own(story(a, b, c))
			}
			l := story(a, nil, b)
			l[0].Deps, l[2].Deps = []api.Id{l[2].Id, id(5, 5)}, []api.Id{}
			own(l)
			l[2].Deps = []api.Id{id(5, 5), l[0].Id}
			own(l)
		}
	}
	own(story(wrong(), nil, list(add("a")), wrong()))
}

// R3: one list of lines that all changes have, and pieces of it; one list of changes that all patches have, and pieces of it; one list of Deps and of ids, and pieces of it; one patch many times, and pieces of one list of patches.
func TestOneListManyTimes(t *testing.T) {
	lines := markedLines(words("x y x y"))
	changes := list(
		with(put("a", 0, "", ""), api.Hunk{At: 0, Old: lines[:2], New: lines}), with(put("a", 0, "", ""), api.Hunk{At: 40, Old: lines, New: lines[:2]}), with(put("a", 0, "", ""), api.Hunk{At: 60, Old: lines[:0], New: lines[:0]}),
		with(put("b", 0, "", ""), api.Hunk{At: 2, New: lines[1:3]}), with(put("b", 0, "", ""), api.Hunk{At: 30, Old: lines[1:3]}), with(put("c", 0, "", ""), api.Hunk{Old: lines[4:], New: lines[4:]}),
	)
	deps := ids(0, 1, 0, 2, 1, 1, 9, 9, 5, 1, 5, 3)
	l := []api.Named{
		{Id: id(5, 1), Deps: deps[:3], L: changes[:2]}, {Id: id(5, 2), Deps: deps[:3], L: changes[3:]}, {Id: id(5, 3), Deps: deps[1:2], L: changes[2:4]}, {Id: id(5, 4), Deps: deps[:0], L: changes[4:]},
		{Id: id(5, 5), Deps: deps[3:], L: changes[:0]}, {Id: id(9, 9), Deps: deps[:4], L: changes},
	}
	hung, others := 0, 0
	try := func(l []api.Named, of []api.Id) {
		t.Helper()
		before, beforeOf := wide(l), slices.Clone(deps)
		h, o := check(t, l, of)
		if h {
			hung++
		}
		if o {
			others++
		}
		stay, gone := Part(l, of)
		picked, rest := Pick(l, of)
		checkApart(t, short(l), slices.Concat(stay, gone, picked, rest))
		if wide(l) != before || !slices.Equal(deps, beforeOf) || !slices.Equal(lines[:6], words("x y x y mark mark")) {
			t.Fatalf("%s: is now %s, %q, %v", before, short(l), lines[:6], deps)
		}
	}
	for i := range l {
		for j := i; j <= len(l); j++ {
			for k := range deps {
				try(l[i:j], deps[k:])
				try(l[i:j], deps[k:k+1])
			}
		}
		for j := range l {
			try([]api.Named{l[i], l[i], l[j]}, deps[4:])
			try([]api.Named{l[i], l[j], l[i]}, deps[4:5])
			try([]api.Named{l[i], l[j], l[j], l[j]}, deps[3:4])
		}
	}
	if hung < 40 || others < 20 {
		t.Errorf("only %d hang, and %d are others", hung, others)
	}
}

// R5: what is asked does not hang on what was asked ahead of it, nor on what was put behind, or picked, there.
func TestAskedOnceMore(t *testing.T) {
	l := []api.Named{{Id: id(0, 1), L: list(put("a", 0, "", "x"))}, {Id: id(0, 2), L: list(put("a", 5, "y", ""))}}
	asked := func() string {
		return fmt.Sprint(Part(l, ids(0, 1))) + fmt.Sprint(Pick(l, ids(0, 1))) + fmt.Sprint(Pick(l, ids(0, 2))) + fmt.Sprint(Part(nil, ids(0, 1))) + fmt.Sprint(Ids(l))
	}
	first := asked()
	want := "[{{0 2} []  [{3 a  {4 [y] []}}]}] [{{0 1} []  [{3 a  {0 [] [x]}}]}]" +
		"[{{0 1} []  [{3 a  {0 [] [x]}}]}] [{{0 2} []  [{3 a  {5 [y] []}}]}]" +
		"[{{0 2} []  [{3 a  {4 [y] []}}]}] [{{0 1} []  [{3 a  {0 [] [x]}}]}]" +
		"[] [][{0 1} {0 2}]"
	if first != want {
		t.Errorf("%s, not %s", first, want)
	}
	for _, bad := range wrong() {
		odd := append(story(list(bad), list(add("b"))), l...)
		for n := range 16 {
			Part(odd, chosenOf(odd, n))
			Pick(odd, chosenOf(odd, n))
		}
		Ids(odd)
	}
	if again := asked(); again != first {
		t.Errorf("%s, and then %s", first, again)
	}
}

func FuzzBubble(f *testing.F) {
	f.Add([]byte{}, []byte{}, byte(0), uint16(0))
	f.Add([]byte{5, 3, 1, 2, 3, 4, 5, 6, 1, 0, 2}, []byte{5, 1, 9, 0, 20, 1}, byte(40), uint16(1))
	f.Add([]byte{0, 4, 9, 0, 1, 1, 5, 0, 1, 1, 30, 1, 2, 1, 1}, []byte{9, 0, 7, 1, 3, 0, 3, 0, 4, 1, 1, 1}, byte(20), uint16(6))
	f.Add([]byte{200, 17, 3, 255, 1, 90, 7, 8, 4, 3, 5, 6, 7, 8, 9}, []byte{200, 11, 0, 3, 2, 1, 100, 4, 4}, byte(5), uint16(9))
	f.Fuzz(func(t *testing.T, made, other []byte, size byte, which uint16) {
		start := begin(int(size))
		l, _ := told(start, min(8, len(made)/3), from(made))
		ids := chosenOf(l, int(which))
		check(t, l, ids)
		checkTree(t, start, l, ids)
		checkOwn(t, l, ids)
		next := from(other)
		for range 3 {
			odd := append(slices.Clone(l), chosen(next))
			odd[next(len(odd))] = chosen(next)
			ids := chosenIds(odd, next)
			check(t, odd, ids)
			checkTree(t, start, odd, ids)
			checkOwn(t, odd, ids)
		}
	})
}

// from chooses by bytes, one by one; when there are none any more, it chooses 0.
func from(b []byte) func(int) int {
	return func(n int) int {
		if len(b) == 0 || n == 0 {
			return 0
		}
		k := int(b[0]) % n
		b = b[1:]
		return k
	}
}
