package trade

import (
	"fmt"
	"math"
	"math/rand/v2"
	"slices"
	"strings"
	"testing"

	"quiltmaker/api"
	"quiltmaker/flow"
	"quiltmaker/pass"
	"quiltmaker/prim"
)

const full = 1 << 20

// words is a list of the words of s.
func words(s string) []string { return strings.Fields(s) }

// of is n bytes of s, one behind the other; many a list of n lines s; numbered are n lines, no two of which are the same.
func of(n int, s string) string { return strings.Repeat(s, n) }

func many(n int, s string) []string { return slices.Repeat([]string{s}, n) }

func numbered(n int) []string {
	var l []string
	for k := range n {
		l = append(l, fmt.Sprint("l", k))
	}
	return l
}

// id is an id; ids are some, of a Who and a No each.
func id(who, no int) api.Id { return api.Id{Who: who, No: no} }

func ids(l ...int) []api.Id {
	var out []api.Id
	for k := 0; k+1 < len(l); k += 2 {
		out = append(out, id(l[k], l[k+1]))
	}
	return out
}

// counted are n ids of who, that rise, the first one with the No from.
func counted(n, who, from int) []api.Id {
	var out []api.Id
	for k := range n {
		out = append(out, id(who, from+k))
	}
	return out
}

// add, rm, move, put and set are changes of each kind, as they may be.
func add(name string) api.Prim { return api.Prim{Kind: 0, Name: name} }

func rm(name string) api.Prim { return api.Prim{Kind: 1, Name: name} }

func move(name, to string) api.Prim { return api.Prim{Kind: 2, Name: name, To: to} }

func put(name string, at int, old, now string) api.Prim {
	return api.Prim{Kind: 3, Name: name, H: api.Hunk{At: at, Old: words(old), New: words(now)}}
}

func set(name, old, now string) api.Prim {
	return api.Prim{Kind: 4, Name: name, H: api.Hunk{Old: words(old), New: words(now)}}
}

// with is p with another H.
func with(p api.Prim, h api.Hunk) api.Prim {
	p.H = h
	return p
}

// file is a file with lines; list are changes.
func file(name, lines string) api.File { return api.File{Name: name, Lines: words(lines)} }

func list(l ...api.Prim) []api.Prim { return l }

// one and two are two patches that have all that one can have, but the changes, that are handed in; the second one does not hang on the first one by its Deps.
func one(l ...api.Prim) api.Named {
	return api.Named{Id: id(3, 5), Deps: ids(0, 1, 2, 7), Text: "one", L: l}
}

func two(l ...api.Prim) api.Named {
	return api.Named{Id: id(1, 4), Deps: ids(3, 4, 3, 6, 7, 5), Text: "two, and more", L: l}
}

// story are patches, each of some changes; each has an Id, Deps and a Text of its own, and none hangs on one of them by Deps.
func story(l ...[]api.Prim) []api.Named {
	var out []api.Named
	for k, changes := range l {
		out = append(out, api.Named{Id: id(k%8, 10+k/8), Deps: counted(k%4, k%8, 1), Text: fmt.Sprint("t", k), L: changes})
	}
	return out
}

// showOne, show and showTree are all of what they are given; lists without elements are shown the same.
func showOne(p api.Prim) string {
	return fmt.Sprintf("%d %q %q %d %q %q\n", p.Kind, p.Name, p.To, p.H.At, append([]string{}, p.H.Old...), append([]string{}, p.H.New...))
}

func show(p api.Named) string {
	s := fmt.Sprintf("%d %d %v %q %d\n", p.Id.Who, p.Id.No, append([]api.Id{}, p.Deps...), p.Text, len(p.L))
	for _, q := range p.L {
		s += showOne(q)
	}
	return s
}

func showAll(l []api.Named) string {
	s := fmt.Sprint(len(l), "\n")
	for _, p := range l {
		s += show(p)
	}
	return s
}

func showTree(t api.Tree) string {
	s := ""
	for _, f := range t {
		s += fmt.Sprintf("%q %q\n", f.Name, append([]string{}, f.Lines...))
	}
	return s
}

// showHead is all that a patch has beside its changes, and how many these are.
func showHead(p api.Named) string {
	p.L = make([]api.Prim, len(p.L))
	return show(p)
}

// short is what is told of something in a test's log.
func short(x any) string {
	s := fmt.Sprint(x)
	if len(s) > 400 {
		s = s[:200] + " .. " + s[len(s)-200:]
	}
	return s
}

// copied is a patch once more; copiedAll are patches.
func copied(p api.Named) api.Named {
	p.Deps, p.L = slices.Clone(p.Deps), slices.Clone(p.L)
	for k, q := range p.L {
		p.L[k].H.Old, p.L[k].H.New = slices.Clone(q.H.Old), slices.Clone(q.H.New)
	}
	return p
}

func copiedAll(l []api.Named) []api.Named {
	l = slices.Clone(l)
	for k := range l {
		l[k] = copied(l[k])
	}
	return l
}

// hangs is whether a patch hangs on an id by its Deps.
func hangs(p api.Named, i api.Id) bool {
	for _, d := range p.Deps {
		if d.Who == i.Who && d.No == i.No {
			return true
		}
	}
	return false
}

// toldPass is what P15.1 tells: in the joint of the changes of both each of q goes ahead, place by place, till all of p are behind it.
func toldPass(p, q api.Named) (api.Named, api.Named, bool) {
	if hangs(q, p.Id) {
		return api.Named{}, api.Named{}, false
	}
	joint := slices.Concat(p.L, q.L)
	for k := range q.L {
		for n := len(p.L) + k; n > k; n-- {
			ahead, behind, ok := pass.Pass(joint[n-1], joint[n])
			if !ok {
				return api.Named{}, api.Named{}, false
			}
			joint[n-1], joint[n] = ahead, behind
		}
	}
	return api.Named{Id: q.Id, Deps: q.Deps, Text: q.Text, L: joint[:len(q.L)]}, api.Named{Id: p.Id, Deps: p.Deps, Text: p.Text, L: joint[len(q.L):]}, true
}

// toldOver is what P15.2 tells: q passes the last one, and then, as it is then, those ahead of that.
func toldOver(l []api.Named, q api.Named) (api.Named, []api.Named, bool) {
	if len(l) == 0 {
		return q, nil, true
	}
	ahead, last, ok := toldPass(l[len(l)-1], q)
	if !ok {
		return api.Named{}, nil, false
	}
	first, others, ok := toldOver(l[:len(l)-1], ahead)
	if !ok {
		return api.Named{}, nil, false
	}
	return first, append(others, last), true
}

// allAsOne is a patch of all changes of patches, without an Id that anyone of these tests hangs on.
func allAsOne(l []api.Named) api.Named {
	p := api.Named{Id: id(-77, -77)}
	for _, q := range l {
		p.L = append(p.L, q.L...)
	}
	return p
}

// toldApply is a tree that patches change, change by change.
func toldApply(t api.Tree, l []api.Named) (api.Tree, api.Errno) {
	for _, q := range allAsOne(l).L {
		next, e := prim.Apply(t, q)
		if e != 0 {
			return nil, e
		}
		t = next
	}
	return t, 0
}

// checkPass holds P15.1 as it is told, R4, what stays with each patch, and of P15.3 that the two pass one another back, where p does not hang on q. It tells whether they pass.
func checkPass(t *testing.T, p, q api.Named) bool {
	t.Helper()
	ahead, behind, ok := Pass(p, q)
	wantAhead, wantBehind, want := toldPass(p, q)
	if ok != want || show(ahead) != show(wantAhead) || show(behind) != show(wantBehind) {
		t.Errorf("%s, %s: %s, %s, %v, not %s, %s, %v", short(p), short(q), short(ahead), short(behind), ok, short(wantAhead), short(wantBehind), want)
	}
	if !ok {
		if show(ahead) != show(api.Named{}) || show(behind) != show(api.Named{}) {
			t.Errorf("%s, %s: don't pass, and are %s, %s", short(p), short(q), short(ahead), short(behind))
		}
		return false
	}
	if showHead(ahead) != showHead(q) || showHead(behind) != showHead(p) {
		t.Errorf("%s, %s: %s, %s", short(p), short(q), short(ahead), short(behind))
	}
	backP, backQ, back := Pass(ahead, behind)
	if back == hangs(p, q.Id) || back && (show(backP) != show(p) || show(backQ) != show(q)) {
		t.Errorf("%s, %s: passed back %s, %s, %v", short(p), short(q), short(backP), short(backQ), back)
	}
	return true
}

// checkOver holds P15.2 as it is told, R4, and what stays with each patch; that one passes the others as it passes all their changes as one, and that it does so wherever they are cut. It tells whether they pass.
func checkOver(t *testing.T, l []api.Named, q api.Named) bool {
	t.Helper()
	first, others, ok := Over(l, q)
	wantFirst, wantOthers, want := toldOver(l, q)
	if ok != want || show(first) != show(wantFirst) || showAll(others) != showAll(wantOthers) {
		t.Errorf("%s, %s: %s, %s, %v, not %s, %s, %v", short(l), short(q), short(first), short(others), ok, short(wantFirst), short(wantOthers), want)
	}
	asOne, one, also := Pass(allAsOne(l), q)
	for _, p := range l {
		also = also && !hangs(q, p.Id)
	}
	if also != ok || ok && (show(asOne) != show(first) || show(one) != show(allAsOne(others))) {
		t.Errorf("%s, %s: %s, %s, %v; as one %s, %s, %v", short(l), short(q), short(first), short(others), ok, short(asOne), short(one), also)
	}
	for k := range len(l) + 1 {
		between, end, ok1 := Over(l[k:], q)
		front, begin, ok2 := Over(l[:k], between)
		if (ok1 && ok2) != ok || ok && (show(front) != show(first) || showAll(slices.Concat(begin, end)) != showAll(others)) {
			t.Errorf("%s, %s, cut at %d: %s, %s, %s, %v, %v", short(l), short(q), k, short(front), short(begin), short(end), ok1, ok2)
		}
	}
	if !ok {
		if show(first) != show(api.Named{}) || len(others) != 0 {
			t.Errorf("%s, %s: can't pass, and are %s, %s", short(l), short(q), short(first), short(others))
		}
		return false
	}
	if showHead(first) != showHead(q) || len(others) != len(l) {
		t.Fatalf("%s, %s: %s, %s", short(l), short(q), short(first), short(others))
	}
	for k, p := range l {
		if showHead(others[k]) != showHead(p) {
			t.Errorf("%s, %s: %d is %s", short(l), short(q), k, short(others[k]))
		}
	}
	checkBack(t, l, q, first, others)
	return true
}

// checkBack holds, of P15.3, that those that q has passed pass it back, from the first one to the last one, as far as none hangs on it.
func checkBack(t *testing.T, l []api.Named, q, first api.Named, others []api.Named) {
	t.Helper()
	at := first
	for k, p := range others {
		ahead, behind, ok := Pass(at, p)
		if ok == hangs(p, q.Id) {
			t.Errorf("%s, %s: %d passes back: %v", short(l), short(q), k, ok)
		}
		if !ok {
			return
		}
		if show(ahead) != show(l[k]) {
			t.Errorf("%s, %s: %d passed back is %s", short(l), short(q), k, short(ahead))
		}
		at = behind
	}
	if show(at) != show(q) {
		t.Errorf("%s, %s: passed back by all is %s", short(l), short(q), short(at))
	}
}

// checkTree holds, of P15.3, that those that are told change a tree to the same, where those handed in change it; they do so in their order, and one by one. It tells whether they pass and change it.
func checkTree(t *testing.T, x api.Tree, l []api.Named, q api.Named) bool {
	t.Helper()
	first, others, ok := Over(l, q)
	want, we := toldApply(x, append(copiedAll(l), q))
	if !ok || we != 0 {
		return false
	}
	now, e := flow.Apply(x, first.L)
	for _, p := range others {
		if e == 0 {
			now, e = flow.Apply(now, p.L)
		}
	}
	if e != 0 || showTree(now) != showTree(want) {
		t.Errorf("%s, %s, %s: %s; passed, by %s, %s: %s, error %d", short(x), short(l), short(q), short(want), short(first), short(others), short(now), e)
	}
	if len(l) != 1 {
		return true
	}
	ahead, behind, ok := Pass(l[0], q)
	if now, e := toldApply(x, []api.Named{ahead, behind}); !ok || e != 0 || showTree(now) != showTree(want) {
		t.Errorf("%s, %s, %s: %s; passed, by %s, %s: %s, error %d", short(x), short(l[0]), short(q), short(want), short(ahead), short(behind), short(now), e)
	}
	return true
}

// wrong are changes that may not be: each for one thing alone, or for more.
func wrong() []api.Prim {
	return list(
		api.Prim{}, api.Prim{Kind: -1, Name: "a"}, api.Prim{Kind: 5, Name: "a"}, api.Prim{Kind: math.MinInt, Name: "a"}, api.Prim{Kind: math.MaxInt, Name: "a", To: "b"},
		add("A"), add(of(17, "a")), with(add("a"), api.Hunk{New: words("x")}), rm("a b"), with(rm("a"), api.Hunk{At: 1}),
		move("a", ""), move("a", "a"), move("", "b"), with(move("a", "b"), api.Hunk{Old: words("x")}),
		put("", 0, "", "x"), put("a", -1, "", "x"), put("a", full+1, "", "x"), put("a", math.MaxInt, "x", ""), put("a", math.MinInt, "", ""),
		with(put("a", 0, "", ""), api.Hunk{Old: []string{"\n"}}), with(put("a", 0, "", ""), api.Hunk{New: []string{of(81, "x")}}), with(put("a", 0, "", ""), api.Hunk{New: many(201, "x")}),
		set("", "", "x"), with(set("a", "", ""), api.Hunk{At: 1, New: words("x")}), with(set("a", "", ""), api.Hunk{Old: many(201, "x")}),
	)
}

// fair are changes of each kind that may be; which name a, b and c.
func fair() []api.Prim {
	return list(
		add("a"), add("b"), rm("a"), rm("b"), move("a", "b"), move("b", "c"), put("a", 0, "", "x"), put("a", 3, "x", ""), put("b", 1, "y", "z"), put("b", 5, "", "x y"),
		set("a", "", "x"), set("b", "x y", ""),
	)
}

// lists are all lists of at most n of some changes.
func lists(n int, some []api.Prim) [][]api.Prim {
	out := [][]api.Prim{nil}
	for k := 0; k < len(out) && len(out[k]) < n; k++ {
		for _, p := range some {
			out = append(out, append(slices.Clone(out[k]), p))
		}
	}
	return out
}

// The chapter's example: two patches that add two files pass; if the second one's Deps have the first one, they don't.
func TestExample(t *testing.T) {
	p, q := api.Named{Id: id(0, 1), L: list(add("a"))}, api.Named{Id: id(0, 2), L: list(add("b"))}
	ahead, behind, ok := Pass(p, q)
	if !ok || show(ahead) != show(q) || show(behind) != show(p) {
		t.Errorf("%v, %v, %v", ahead, behind, ok)
	}
	if first, others, ok := Over([]api.Named{p}, q); !ok || show(first) != show(q) || showAll(others) != showAll([]api.Named{p}) {
		t.Errorf("%v, %v, %v", first, others, ok)
	}
	q.Deps = ids(0, 1)
	ahead, behind, ok = Pass(p, q)
	if ok || show(ahead) != show(api.Named{}) || show(behind) != show(api.Named{}) {
		t.Errorf("%v, %v, %v", ahead, behind, ok)
	}
	if first, others, ok := Over([]api.Named{p}, q); ok || show(first) != show(api.Named{}) || len(others) != 0 {
		t.Errorf("%v, %v, %v", first, others, ok)
	}
}

// P15.1: patches that pass: those whose changes stay, and those whose changes are others then.
func TestPass(t *testing.T) {
	for _, x := range []struct{ p, q, ahead, behind []api.Prim }{
		// One change of each.
		{list(add("a")), list(add("b")), list(add("b")), list(add("a"))},
		{list(rm("a")), list(set("b", "x", "y")), list(set("b", "x", "y")), list(rm("a"))},
		{list(move("a", "b")), list(put("b", 0, "", "x")), list(put("a", 0, "", "x")), list(move("a", "b"))},
		{list(put("a", 0, "", "x")), list(move("a", "b")), list(move("a", "b")), list(put("b", 0, "", "x"))},
		// Places that move: of the second one, of the first one, of both.
		{list(put("a", 0, "", "x")), list(put("a", 5, "b", "")), list(put("a", 4, "b", "")), list(put("a", 0, "", "x"))},
		{list(put("a", 5, "", "x")), list(put("a", 0, "", "y z")), list(put("a", 0, "", "y z")), list(put("a", 7, "", "x"))},
		{list(put("a", 0, "", "v v"), put("a", 9, "y", "")), list(put("a", 5, "", "z"), put("a", 20, "w", "")), list(put("a", 3, "", "z"), put("a", 19, "w", "")), list(put("a", 0, "", "v v"), put("a", 10, "y", ""))},
		{list(put("a", 0, "x", "")), list(put("a", full-1, "", "y")), list(put("a", full, "", "y")), list(put("a", 0, "x", ""))},
		// Names that move, of both.
		{list(move("a", "b"), put("c", 5, "", "x")), list(put("b", 0, "", "y"), move("c", "e"), put("e", 0, "", "z")), list(put("a", 0, "", "y"), move("c", "e"), put("e", 0, "", "z")), list(move("a", "b"), put("e", 6, "", "x"))},
		// More changes of the one than of the other.
		{list(add("a"), put("a", 0, "", "x"), move("a", "b")), list(add("c")), list(add("c")), list(add("a"), put("a", 0, "", "x"), move("a", "b"))},
		{list(add("c")), list(add("a"), put("a", 0, "", "x"), move("a", "b")), list(add("a"), put("a", 0, "", "x"), move("a", "b")), list(add("c"))},
		{list(put("a", 0, "", "x"), move("a", "b")), list(put("b", 5, "y", "")), list(put("a", 4, "y", "")), list(put("a", 0, "", "x"), move("a", "b"))},
		{list(put("a", 0, "", "x")), list(move("a", "b"), add("a"), put("a", 0, "", "y")), list(move("a", "b"), add("a"), put("a", 0, "", "y")), list(put("b", 0, "", "x"))},
		// Without changes: one of both, and both.
		{nil, list(put("a", 1, "x", "y")), list(put("a", 1, "x", "y")), nil},
		{list(put("a", 1, "x", "y")), nil, nil, list(put("a", 1, "x", "y"))},
		{list(), list(add("a"), rm("a")), list(add("a"), rm("a")), nil},
		{list(add("a"), rm("a")), list(), nil, list(add("a"), rm("a"))},
		{nil, nil, nil, nil},
		{list(), nil, nil, nil},
		{nil, list(), nil, nil},
	} {
		ahead, behind, ok := Pass(one(x.p...), two(x.q...))
		if !ok || show(ahead) != show(two(x.ahead...)) || show(behind) != show(one(x.behind...)) {
			t.Errorf("%v, %v: %v, %v, %v", x.p, x.q, ahead, behind, ok)
		}
		checkPass(t, one(x.p...), two(x.q...))
		// What hangs by Deps can't pass, however its changes would.
		q := two(x.q...)
		q.Deps = ids(3, 4, 3, 5, 3, 6)
		ahead, behind, ok = Pass(one(x.p...), q)
		if ok || show(ahead) != show(api.Named{}) || show(behind) != show(api.Named{}) {
			t.Errorf("%v, %v, which hangs on it: %v, %v, %v", x.p, x.q, ahead, behind, ok)
		}
		checkPass(t, one(x.p...), q)
	}
}

// P15.1, R4: patches of which one change can't pass: as the first one, as one between, as the last one, of the one and of the other.
func TestPassWhatTouches(t *testing.T) {
	free := list(add("u"), put("v", 3, "x", "y"), move("w", "z"))
	other := list(set("k", "", "x"), rm("l"), put("v", 9, "", "x"))
	if !checkPass(t, one(free...), two(other...)) {
		t.Fatal("without what touches they don't pass")
	}
	for _, x := range [][2]api.Prim{
		{add("a"), put("a", 0, "", "x")}, {add("a"), add("a")}, {rm("a"), add("a")}, {move("a", "b"), add("a")}, {move("a", "b"), rm("b")}, {move("a", "b"), move("b", "c")},
		{put("a", 0, "", "x"), put("a", 1, "", "y")}, {put("a", 0, "", "x"), put("a", 0, "", "y")}, {put("a", 3, "x", "y"), put("a", 3, "y", "z")}, {put("a", 0, "", "x"), set("a", "x", "y")}, {set("a", "", "x"), set("a", "x", "y")},
		{put("a", 0, "x", ""), put("a", full, "", "y")}, {put("a", full, "", "y"), put("a", 0, "", "x")},
	} {
		for k := range len(free) + 1 {
			for n := range len(other) + 1 {
				p, q := one(slices.Insert(slices.Clone(free), k, x[0])...), two(slices.Insert(slices.Clone(other), n, x[1])...)
				ahead, behind, ok := Pass(p, q)
				if ok || show(ahead) != show(api.Named{}) || show(behind) != show(api.Named{}) {
					t.Errorf("%v, %v: %v, %v, %v", p, q, ahead, behind, ok)
				}
				checkPass(t, p, q)
			}
		}
		checkPass(t, one(x[0]), two(x[1]))
	}
	// One that would pass as it was, but not as another one has made it.
	for _, x := range []struct{ p, q []api.Prim }{
		{list(put("a", 0, "", "x")), list(move("a", "b"), put("b", 0, "", "y"))},
		{list(put("a", 3, "", "x")), list(put("a", 0, "", "v v"), put("a", 6, "", "y"))},
		{list(add("a"), move("a", "b")), list(put("b", 0, "", "x"))},
		{list(put("a", 4, "", "x"), put("a", 0, "v v", "")), list(put("a", 3, "y", ""))},
	} {
		if ahead, behind, ok := Pass(one(x.p...), two(x.q...)); ok || show(ahead) != show(api.Named{}) || show(behind) != show(api.Named{}) {
			t.Errorf("%v, %v: %v, %v, %v", x.p, x.q, ahead, behind, ok)
		}
		checkPass(t, one(x.p...), two(x.q...))
	}
}

// P15.1: the second one's Deps; whatever the first one's are, and whatever the changes are.
func TestPassDeps(t *testing.T) {
	for _, x := range []struct {
		deps []api.Id
		pass bool
	}{
		// The first one's Id: alone, as the first of them, as one between, as the last one.
		{ids(3, 5), false}, {ids(3, 5, 3, 6, 4, 1), false}, {ids(3, 4, 3, 5, 3, 6), false}, {ids(0, 1, 2, 2, 3, 5), false}, {ids(3, 5, 7, full), false}, {ids(0, 1, 3, 5), false},
		// Twice: side by side, and apart.
		{ids(3, 5, 3, 5), false}, {ids(0, 1, 3, 5, 3, 5, 4, 1), false}, {ids(3, 5, 3, 6, 3, 5), false}, {ids(3, 5, 0, 1, 2, 2, 3, 5), false},
		// None, and others.
		{nil, true}, {[]api.Id{}, true}, {make([]api.Id, 0, 3), true}, {ids(1, 1), true}, {ids(0, 1, 0, 2, 5, 9), true},
		// The same Who and another No, the same No and another Who; alone, and beside one another.
		{ids(3, 4), true}, {ids(3, 6), true}, {ids(2, 5), true}, {ids(4, 5), true}, {ids(5, 3), true}, {ids(2, 5, 3, 4, 3, 6, 4, 5), true}, {ids(3, 15), true}, {ids(3, 55), true}, {ids(33, 5), true},
		{ids(3, 0), true}, {ids(0, 5), true}, {ids(3, -5), true}, {ids(-3, 5), true}, {ids(3+1<<32, 5), true}, {ids(3, 5+1<<32), true}, {ids(3+8, 5), true}, {ids(0, 0), true},
		// The second one's own Id.
		{ids(1, 4), true}, {ids(1, 4, 3, 5), false},
		// Such as may not be: they don't rise, come twice, are too many, are ids that may not be.
		{ids(4, 1, 3, 6, 3, 4, 0, 1), true}, {ids(4, 1, 3, 5, 3, 4), false}, {ids(3, 6, 3, 5, 3, 4), false}, {ids(1, 1, 1, 1), true}, {counted(99, 3, 6), true}, {counted(99, 3, 5), false}, {ids(-1, 0, 8, full+1), true}, {ids(-1, 0, 3, 5, 8, full+1), false},
	} {
		for _, deps := range [][]api.Id{nil, ids(1, 4), ids(0, 1, 1, 4, 2, 1), ids(3, 5), ids(1, 3, 1, 5)} {
			for _, l := range [][2][]api.Prim{{nil, nil}, {list(add("a")), nil}, {nil, list(add("a"))}, {list(add("a")), list(add("b"))}, {list(put("a", 0, "", "x"), move("a", "c")), list(put("c", 7, "y", ""), add("a"))}, {wrong(), nil}} {
				p, q := one(l[0]...), two(l[1]...)
				p.Deps, q.Deps = deps, x.deps
				want := x.pass && !(len(l[0]) == 2 && len(l[1]) == 2)
				if got := checkPass(t, p, q); got != want {
					t.Errorf("%v, %v: pass: %v", p, q, got)
				}
				if got := checkOver(t, []api.Named{p}, q); got != want {
					t.Errorf("%v, %v: passes one: %v", p, q, got)
				}
			}
		}
	}
	// In each place of as many as there may be.
	for k := range 60 {
		q := two(add("b"))
		q.Deps = counted(60, 3, 6)
		if !checkPass(t, one(add("a")), q) {
			t.Error("60 others")
		}
		if q.Deps[k] = id(3, 5); checkPass(t, one(add("a")), q) {
			t.Errorf("passes, with the Id in place %d", k)
		}
	}
}

// P15.1: the first one's Deps are no hindrance; but when they have passed the other way is none.
func TestPassFirstHangs(t *testing.T) {
	for _, deps := range [][]api.Id{ids(1, 4), ids(0, 1, 1, 4), ids(1, 4, 2, 1), ids(1, 3, 1, 4, 1, 5), ids(1, 4, 1, 4)} {
		p, q := one(put("a", 0, "", "x")), two(put("a", 5, "y", ""))
		p.Deps = deps
		ahead, behind, ok := Pass(p, q)
		if !ok || showOne(ahead.L[0]) != showOne(put("a", 4, "y", "")) || show(behind) != show(p) {
			t.Errorf("%v: %v, %v, %v", deps, ahead, behind, ok)
		}
		if backP, backQ, ok := Pass(ahead, behind); ok || show(backP) != show(api.Named{}) || show(backQ) != show(api.Named{}) {
			t.Errorf("%v: passed back %v, %v, %v", deps, backP, backQ, ok)
		}
		checkPass(t, p, q)
	}
}

// P15.1: two of the same Id, such as may be and such as may not: only Deps tell whether they hang together.
func TestPassSameId(t *testing.T) {
	for _, i := range ids(0, 0, 0, 1, 7, full, 3, 5, -1, 5, 8, 1, 0, full+1, math.MinInt, math.MaxInt, math.MaxInt, math.MinInt) {
		for _, deps := range [][]api.Id{nil, {i}, ids(2, 2), {id(2, 2), i}, {id(i.No, i.Who)}, {id(i.Who, i.No+1)}, {id(i.Who-1, i.No)}} {
			p, q := one(add("a")), two(add("b"))
			p.Id, q.Id, q.Deps = i, i, deps
			if got := checkPass(t, p, q); got == slices.Contains(deps, i) {
				t.Errorf("%v, %v: pass: %v", p, q, got)
			}
			p.Deps = deps
			checkPass(t, p, q)
			q.Deps = nil
			if !checkPass(t, p, q) {
				t.Errorf("%v, %v: don't pass", p, q)
			}
			// Another Id than the one that is handed in is none of both.
			q.Id = two().Id
			q.Deps = deps
			checkPass(t, p, q)
		}
	}
	// Noughts pass one another: no Deps have an Id then.
	if !checkPass(t, api.Named{}, api.Named{}) || !checkOver(t, make([]api.Named, 3), api.Named{}) {
		t.Error("noughts don't pass")
	}
}

// P15.1, R1, R4: changes that may not be, in each place: such pass only what has no changes. Whether the patches may be for the rest is all the same.
func TestPassWhatMayNotBe(t *testing.T) {
	l, other := list(add("u"), put("v", 3, "x", "y"), move("w", "z")), list(set("k", "", "x"), rm("l"))
	for _, p := range wrong() {
		for k := range len(l) + 1 {
			odd := slices.Insert(slices.Clone(l), k, p)
			for _, x := range [][2][]api.Prim{{odd, other}, {other, odd}, {odd, odd}, {odd, list(p)}, {list(p), odd}, {list(p), other}, {other, list(p)}} {
				if checkPass(t, one(x[0]...), two(x[1]...)) {
					t.Errorf("%v, %v: pass", x[0], x[1])
				}
				if checkOver(t, []api.Named{one(x[0]...)}, two(x[1]...)) {
					t.Errorf("%v, %v: passes", x[0], x[1])
				}
			}
			if !checkPass(t, one(odd...), two()) || !checkPass(t, one(), two(odd...)) || !checkOver(t, []api.Named{one(), one()}, two(odd...)) || !checkOver(t, []api.Named{one(odd...), one()}, two()) {
				t.Errorf("%v: does not pass nothing", odd)
			}
		}
	}
	p := api.Named{Id: id(-1, 0), Deps: ids(9, 0, 9, 0, -1, 0), Text: "\n" + of(99, "x"), L: slices.Repeat(list(add("a"), put("b", 0, "", "x")), 150)}
	q := api.Named{Id: id(8, full+1), Deps: counted(61, 9, -30), Text: of(80, "\n"), L: slices.Repeat(list(add("c"), put("b", 400, "y", "")), 101)}
	if !checkPass(t, p, q) || !checkOver(t, []api.Named{p, p}, q) {
		t.Error("such as may not be don't pass")
	}
	q.Deps[60] = p.Id
	if checkPass(t, p, q) || checkOver(t, []api.Named{p, p}, q) {
		t.Error("such as may not be pass, though one hangs on the other")
	}
}

// P15.2: one that passes others.
func TestOver(t *testing.T) {
	for _, x := range []struct {
		l      []api.Named
		q      []api.Prim
		first  []api.Prim
		others []api.Named
	}{
		// None: it stays as it is.
		{nil, list(put("a", 5, "", "y")), list(put("a", 5, "", "y")), nil},
		{[]api.Named{}, nil, nil, nil},
		{nil, wrong(), wrong(), nil},
		// One.
		{story(list(put("a", 0, "", "x"))), list(put("a", 5, "", "y")), list(put("a", 4, "", "y")), story(list(put("a", 0, "", "x")))},
		{story(list(put("a", 5, "", "x"))), list(put("a", 0, "", "y")), list(put("a", 0, "", "y")), story(list(put("a", 6, "", "x")))},
		// Several: it is another one for each that it passes.
		{story(list(put("a", 0, "", "w")), list(put("a", 0, "", "x"))), list(put("a", 5, "", "y")), list(put("a", 3, "", "y")), story(list(put("a", 0, "", "w")), list(put("a", 0, "", "x")))},
		{story(list(put("a", 0, "", "u v")), list(put("a", 1, "w", "")), list(put("a", 0, "", "x x x"))), list(put("a", 9, "y", "")), list(put("a", 5, "y", "")), story(list(put("a", 0, "", "u v")), list(put("a", 1, "w", "")), list(put("a", 0, "", "x x x")))},
		{story(list(put("a", 0, "", "x")), list(move("a", "b")), list(add("a")), list(move("b", "c"))), list(put("c", 5, "y", "")), list(put("a", 4, "y", "")), story(list(put("a", 0, "", "x")), list(move("a", "b")), list(add("a")), list(move("b", "c")))},
		// It passes the last one only as it is, and the one ahead only as it is then.
		{story(list(put("a", 4, "", "x")), list(put("a", 0, "v v", ""))), list(put("a", 5, "y", "")), list(put("a", 6, "y", "")), story(list(put("a", 4, "", "x")), list(put("a", 0, "v v", "")))},
		{story(list(add("b")), list(move("b", "c")), list(move("a", "b"))), list(put("b", 1, "x", "y")), list(put("a", 1, "x", "y")), story(list(add("b")), list(move("b", "c")), list(move("a", "b")))},
		// Those that it passes are others then: the last one, the first one, one between, all of them.
		{story(list(add("b")), list(put("a", 3, "", "x"))), list(move("a", "c")), list(move("a", "c")), story(list(add("b")), list(put("c", 3, "", "x")))},
		{story(list(put("a", 3, "", "x")), list(add("b"))), list(move("a", "c")), list(move("a", "c")), story(list(put("c", 3, "", "x")), list(add("b")))},
		{story(list(add("b")), list(put("a", 3, "", "x")), list(rm("d"))), list(move("a", "c")), list(move("a", "c")), story(list(add("b")), list(put("c", 3, "", "x")), list(rm("d")))},
		{story(list(put("a", 9, "", "x")), list(put("a", 7, "y", "")), list(set("b", "", "x"), put("a", 5, "", "z"))), list(put("a", 0, "", "v v")), list(put("a", 0, "", "v v")), story(list(put("a", 11, "", "x")), list(put("a", 9, "y", "")), list(set("b", "", "x"), put("a", 7, "", "z")))},
		// What it has become changes those ahead: by another name, by another place.
		{story(list(put("a", 3, "", "x")), list(move("a", "b"))), list(put("b", 0, "", "v v")), list(put("a", 0, "", "v v")), story(list(put("a", 5, "", "x")), list(move("a", "b")))},
		{story(list(put("a", 6, "", "x")), list(put("a", 0, "", "w w w"))), list(put("a", 5, "", "y")), list(put("a", 2, "", "y")), story(list(put("a", 7, "", "x")), list(put("a", 0, "", "w w w")))},
		// It has many changes, or none; those that it passes have none, or many.
		{story(list(put("a", 0, "", "x")), list(add("d"), put("d", 0, "", "x"))), list(move("a", "b"), add("a"), put("a", 0, "", "y")), list(move("a", "b"), add("a"), put("a", 0, "", "y")), story(list(put("b", 0, "", "x")), list(add("d"), put("d", 0, "", "x")))},
		{story(list(put("a", 0, "", "x")), nil, list(move("a", "b"))), nil, nil, story(list(put("a", 0, "", "x")), nil, list(move("a", "b")))},
		{story(nil, list(put("a", 0, "", "x")), nil, list(put("a", 0, "", "w")), nil), list(put("a", 5, "", "y")), list(put("a", 3, "", "y")), story(nil, list(put("a", 0, "", "x")), nil, list(put("a", 0, "", "w")), nil)},
		{story(nil, list(), nil), wrong(), wrong(), story(nil, nil, nil)},
		{story(wrong(), fair(), wrong()), nil, nil, story(wrong(), fair(), wrong())},
	} {
		first, others, ok := Over(x.l, two(x.q...))
		if !ok || show(first) != show(two(x.first...)) || showAll(others) != showAll(x.others) {
			t.Errorf("%v, %v: %v, %v, %v", short(x.l), short(x.q), short(first), short(others), ok)
		}
		checkOver(t, x.l, two(x.q...))
	}
}

// P15.2, R4: one that can't pass the first one, one between, the last one, or more.
func TestOverWhatTouches(t *testing.T) {
	l := story(list(add("a"), put("a", 0, "", "x")), list(put("e", 9, "", "x")), list(add("b")), list(move("c", "d")))
	for _, x := range []struct {
		q  []api.Prim
		ok bool
	}{
		{list(put("a", 0, "", "y")), false}, {list(add("f"), put("a", 0, "", "y"), add("g")), false}, {list(put("e", 9, "", "y")), false}, {list(put("e", 10, "", "y"), add("f")), false},
		{list(put("b", 0, "", "y")), false}, {list(add("f"), rm("b")), false}, {list(rm("d")), false}, {list(add("c")), false}, {list(put("d", 1, "x", ""), rm("d")), false},
		{list(rm("b"), rm("a")), false}, {list(rm("a"), rm("e"), rm("b"), rm("c")), false}, {list(put("d", 0, "", "x"), put("e", 11, "", "y"), rm("f"), put("a", 1, "", "y")), false},
		{list(put("d", 0, "", "x"), put("e", 11, "", "y"), rm("f")), true}, {list(add("f"), put("f", 0, "", "x"), rm("f")), true}, {nil, true},
	} {
		first, others, ok := Over(l, two(x.q...))
		if ok != x.ok || !ok && (show(first) != show(api.Named{}) || len(others) != 0) {
			t.Errorf("%v: %v, %v, %v", x.q, first, others, ok)
		}
		checkOver(t, l, two(x.q...))
		for k := range l {
			checkOver(t, l[k:], two(x.q...))
			checkOver(t, l[:k], two(x.q...))
			checkOver(t, slices.Concat(l[k:], l[:k]), two(x.q...))
		}
	}
	// It would pass the one ahead as it was, but not as it is then; or that one would be passed as it was.
	for _, x := range []struct {
		l []api.Named
		q []api.Prim
	}{
		{story(list(add("a")), list(move("a", "b"))), list(put("b", 0, "", "x"))},
		{story(list(put("a", 4, "", "x")), list(put("a", 0, "v v", ""))), list(put("a", 3, "y", ""))},
		{story(list(put("a", 0, "", "x")), list(move("a", "b"))), list(put("b", 1, "", "y"))},
		{story(list(put("a", 0, "", "x")), list(put("a", 0, "x", ""))), list(put("a", full, "", "y"))},
		{story(list(put("a", 3, "", "x")), list(put("a", 0, "", "w w"))), list(put("a", 6, "", "y"))},
		{story(list(put("a", 0, "", "x")), nil, list(add("c"))), list(move("a", "b"), put("b", 0, "", "y"))},
	} {
		first, others, ok := Over(x.l, two(x.q...))
		if ok || show(first) != show(api.Named{}) || len(others) != 0 {
			t.Errorf("%v, %v: %v, %v, %v", x.l, x.q, first, others, ok)
		}
		checkOver(t, x.l, two(x.q...))
	}
}

// P15.2, R4: one that hangs by its Deps on the first one, on one between, on the last one, on more; whatever its changes are.
func TestOverDeps(t *testing.T) {
	for _, n := range []int{1, 2, 3, 5, 60} {
		l := story(make([][]api.Prim, n)...)
		for k := range l {
			l[k].L = list(put("a", 0, "", "w"))
		}
		for _, changes := range [][]api.Prim{list(put("a", 100, "", "y")), nil, wrong(), list(add("b"))} {
			q := two(changes...)
			want := len(changes) < 2
			if first, others, ok := Over(l, q); ok != want || ok && len(changes) == 1 && len(others) != n {
				t.Errorf("%d patches, %v: %v, %v, %v", n, short(q), short(first), short(others), ok)
			}
			for k := range l {
				for _, deps := range [][]api.Id{{l[k].Id}, append(ids(0, 1), l[k].Id), {l[k].Id, id(9, 9)}, {l[k].Id, l[k].Id}, {l[0].Id, l[k].Id}, {id(9, 9), l[k].Id, id(0, 0)}} {
					q.Deps = deps
					first, others, ok := Over(l, q)
					if ok || show(first) != show(api.Named{}) || len(others) != 0 {
						t.Errorf("%d patches, hangs on %d: %v, %v, %v", n, k, short(first), short(others), ok)
					}
				}
				// The same Who and another No, the same No and another Who.
				q.Deps = []api.Id{id(l[k].Id.Who, 999), id(999, l[k].Id.No), id(l[k].Id.No, l[k].Id.Who)}
				if _, _, ok := Over(l, q); ok != want {
					t.Errorf("%d patches, hangs on none: %v", n, ok)
				}
				q.Deps = []api.Id{l[k].Id}
				// Not when that one is left out.
				if _, _, ok := Over(slices.Delete(copiedAll(l), k, k+1), q); ok != (want || n == 1) {
					t.Errorf("%d patches, without the one that it hangs on: %v", n, ok)
				}
			}
		}
	}
	// One Id many times; and patches that hang on one another, or on the one that passes, are no hindrance.
	p := one(add("a"))
	q := two(add("b"))
	for _, deps := range [][]api.Id{nil, {q.Id}, {p.Id}, {p.Id, q.Id}, ids(3, 4, 3, 6)} {
		p.Deps = deps
		if !checkOver(t, []api.Named{p, p, p}, q) {
			t.Errorf("%v: does not pass", deps)
		}
	}
	q.Deps = []api.Id{p.Id}
	if checkOver(t, []api.Named{p, p, p}, q) || checkOver(t, []api.Named{{}, p, {}}, q) || checkOver(t, []api.Named{p, {}, {}}, q) || checkOver(t, []api.Named{{}, {}, p}, q) {
		t.Error("passes")
	}
}

// P15.1, P15.3: all pairs of patches of at most two of some changes, whether they fit or not, and whether they hang together by Deps.
func TestPassAllSmall(t *testing.T) {
	some := list(
		add("a"), rm("b"), move("a", "b"), move("b", "c"), put("a", 0, "", "x"), put("a", 2, "y", ""), put("a", 5, "", "y z"), put("b", 1, "x", "y"), put("b", 4, "", "x"),
		set("a", "x", "y"), set("b", "x y", ""), move("a", "a"),
	)
	passed := [3][3]int{}
	all := lists(2, some)
	for _, a := range all {
		for _, b := range all {
			p, q := one(a...), two(b...)
			ok := checkPass(t, p, q)
			if ok {
				passed[len(a)][len(b)]++
			}
			p.Deps = append(p.Deps, q.Id)
			if checkPass(t, p, q) != ok {
				t.Errorf("%v, %v: pass: %v", p, q, !ok)
			}
			if q.Deps[1] = p.Id; checkPass(t, p, q) {
				t.Errorf("%v, %v: pass", p, q)
			}
		}
	}
	if passed[0][0] != 1 || passed[0][2] != 144 || passed[2][0] != 144 || passed[1][1] < 40 || passed[1][2] < 150 || passed[2][1] < 150 || passed[2][2] < 500 {
		t.Errorf("only %d pass", passed)
	}
}

// P15.2, P15.3: all lists of at most three of some patches, and all of some that may pass them.
func TestOverAllSmall(t *testing.T) {
	some := [][]api.Prim{
		nil, list(add("a")), list(move("a", "b")), list(move("b", "a")), list(put("a", 0, "", "x")), list(put("a", 2, "y", "")), list(put("b", 1, "", "x y")), list(set("b", "x", "y")),
		list(put("a", 5, "", "z"), move("b", "c")), list(put("b", 4, "y z", ""), add("d")), list(add("A")),
	}
	passed := [4]int{}
	try := func(l []api.Named) {
		for _, changes := range some {
			if checkOver(t, l, two(changes...)) {
				passed[len(l)]++
			}
		}
		for k := range l {
			q := two(put("b", 9, "", "w"))
			q.Deps = []api.Id{id(0, 1), l[k].Id}
			if checkOver(t, l, q) {
				t.Errorf("%v, %v: passes", l, q)
			}
		}
	}
	try(nil)
	for _, a := range some {
		try(story(a))
		for _, b := range some {
			try(story(a, b))
			for _, c := range some {
				try(story(a, b, c))
			}
		}
	}
	if passed[0] != len(some) || passed[1] < 50 || passed[2] < 300 || passed[3] < 1500 {
		t.Errorf("only %d pass", passed)
	}
}

// P15.3, P3: all stories of four of some changes on some trees, cut in two, and in three.
func TestSameOnAllSmallTrees(t *testing.T) {
	some := list(
		add("a"), add("c"), rm("a"), rm("c"), move("a", "b"), move("b", "a"), move("b", "c"), put("a", 0, "", "x"), put("a", 0, "x", ""), put("a", 2, "y", ""), put("a", 4, "", "y z"),
		put("b", 1, "x", "y"), put("b", 0, "", "x"), put("b", 3, "x", ""), put("c", 1, "", ""), set("a", "x", "y"), set("b", "x x", ""), set("c", "", "x x"),
	)
	passed, over := 0, 0
	var tell func(x, now api.Tree, told []api.Prim)
	tell = func(x, now api.Tree, told []api.Prim) {
		for k := range len(told) + 1 {
			if checkTree(t, x, story(told[:k]), two(told[k:]...)) && 0 < k && k < len(told) {
				passed++
			}
			for n := 1; n < k; n++ {
				if checkTree(t, x, story(told[:n], told[n:k]), two(told[k:]...)) && k < len(told) {
					over++
				}
			}
		}
		for _, p := range some {
			if next, e := prim.Apply(now, p); e == api.OK && len(told) < 4 {
				tell(x, next, append(slices.Clone(told), p))
			}
		}
	}
	for _, x := range []api.Tree{nil, {file("b", "x x")}, {file("a", "x z y z x"), file("b", "x x z x x")}, {file("b", "x x x x x"), file("c", "")}} {
		tell(x, x, nil)
	}
	if passed < 2000 || over < 1500 {
		t.Errorf("only %d, %d pass", passed, over)
	}
}

// fit is a change that fits a tree, as next chooses it: a number from 0 on, below the one that it is given.
func fit(x api.Tree, next func(int) int) api.Prim {
	free := slices.DeleteFunc(words("a b c d e f"), func(s string) bool {
		return slices.ContainsFunc(x, func(f api.File) bool { return f.Name == s })
	})
	what := next(12)
	if len(x) == 0 || what == 0 && len(free) > 0 {
		return add(free[next(len(free))])
	}
	f := x[next(len(x))]
	if what <= 2 && len(free) > 0 {
		return move(f.Name, free[next(len(free))])
	}
	if what == 3 && len(f.Lines) == 0 {
		return rm(f.Name)
	}
	now := numbered(50)[next(50):][:next(3)%2]
	if what == 4 && len(f.Lines) < 100 {
		return with(set(f.Name, "", ""), api.Hunk{Old: slices.Clone(f.Lines), New: append(slices.Clone(f.Lines), now...)})
	}
	from := next(len(f.Lines) + 1)
	old := f.Lines[from:][:next(min(3, len(f.Lines)-from+1))]
	return with(put(f.Name, 0, "", ""), api.Hunk{At: from, Old: slices.Clone(old), New: slices.Clone(now)})
}

// told are n patches, one behind the other, that change a tree, and what that is then; some hang by Deps on some ahead of them, or behind.
func told(x api.Tree, n int, next func(int) int) ([]api.Named, api.Tree) {
	var l []api.Named
	for k := range n {
		p := api.Named{Id: id(k%8, k+1), Text: fmt.Sprint("t", next(9))}
		for range next(3) * next(2) {
			other := next(3 * n)
			p.Deps = append(p.Deps, id(other%8, other+1))
		}
		for range next(4) {
			q := fit(x, next)
			y, e := prim.Apply(x, q)
			if e != api.OK {
				break
			}
			p.L, x = append(p.L, q), y
		}
		l = append(l, p)
	}
	return l, x
}

// begin is the tree that longer stories begin with.
func begin(n int) api.Tree {
	return api.Tree{{Name: "a", Lines: numbered(n)}, {Name: "c", Lines: numbered(n * 3 / 4)}, {Name: "e"}}
}

// P15.1 to P15.3: longer stories: each passes those ahead of it, as far as it can; by a fixed seed.
func TestStories(t *testing.T) {
	chance := rand.New(rand.NewPCG(15, 1))
	start := begin(40)
	passed, stopped := 0, 0
	for range 3000 {
		l, _ := told(start, 2+chance.IntN(5), chance.IntN)
		n := len(l) - 1
		for k := range n {
			checkPass(t, l[k], l[k+1])
		}
		for k := n; k >= 0; k-- {
			if !checkOver(t, l[k:n], l[n]) {
				stopped++
				break
			}
			ahead, _ := toldApply(start, l[:k])
			if !checkTree(t, ahead, l[k:n], l[n]) {
				t.Errorf("%s: the last one passes %d and does not change the tree", short(l), n-k)
			}
			if n-k > 1 && len(l[n].L) > 0 {
				passed++
			}
		}
		if t.Failed() {
			return
		}
	}
	if passed < 700 || stopped < 700 {
		t.Errorf("only %d pass, and %d don't", passed, stopped)
	}
}

// P15.3: patches that go ahead one after the other, till none can any more, always make the same of a tree; those that have gone go back.
func TestManyGoAhead(t *testing.T) {
	chance := rand.New(rand.NewPCG(15, 2))
	start := begin(40)
	gone := 0
	for range 500 {
		l, end := told(start, 6, chance.IntN)
		for range 20 {
			to, from := chance.IntN(6), chance.IntN(6)
			if to > from {
				to, from = from, to
			}
			first, others, ok := Over(l[to:from], l[from])
			if !ok {
				continue
			}
			if l = slices.Concat(l[:to], []api.Named{first}, others, l[from+1:]); from > to {
				gone++
			}
			if now, e := toldApply(start, l); e != 0 || showTree(now) != showTree(end) {
				t.Fatalf("%s: %s, error %d, not %s", short(l), short(now), e, short(end))
			}
		}
	}
	if gone < 1000 {
		t.Errorf("only %d have gone ahead", gone)
	}
}

// P15.1 to P15.3: as many changes of each patch as there may be, and as many patches.
func TestMany(t *testing.T) {
	p, q, wantP, wantQ := one(), two(), one(), two()
	for k := range 200 {
		p.L, wantP.L = append(p.L, put("a", 2000-2*k, "", "x")), append(wantP.L, put("b", 2000-2*k+199, "", "x"))
	}
	for k := range 199 {
		q.L, wantQ.L = append(q.L, put("a", k, "", "y")), append(wantQ.L, put("a", k, "", "y"))
	}
	q.L, wantQ.L = append(q.L, move("a", "b")), append(wantQ.L, move("a", "b"))
	if ahead, behind, ok := Pass(p, q); !ok || show(ahead) != show(wantQ) || show(behind) != show(wantP) {
		t.Errorf("%s, %s, %v", short(ahead), short(behind), ok)
	}
	checkPass(t, p, q)
	var l []api.Named
	for k := range 60 {
		l = append(l, api.Named{Id: id(k%8, k), Deps: counted(60, 7, 100), Text: of(80, "t"), L: slices.Repeat(list(put("a", 0, "", "x")), 20)})
	}
	first, others, ok := Over(l, two(put("a", 1210, "y", ""), put("a", 1205, "", "z"), move("a", "c")))
	if !ok || show(first) != show(two(put("a", 10, "y", ""), put("a", 5, "", "z"), move("a", "c"))) || len(others) != 60 {
		t.Errorf("%s, %s, %v", short(first), short(others), ok)
	}
	for k, p := range others {
		if p.Id != l[k].Id || !slices.Equal(p.Deps, l[k].Deps) || p.Text != l[k].Text || show(p) != strings.ReplaceAll(show(l[k]), `3 "a"`, `3 "c"`) {
			t.Errorf("%d is %s", k, short(p))
		}
	}
	checkTree(t, begin(100), l, two(put("a", 1210, "l10", ""), put("a", 1205, "", "z"), move("a", "b")))
	if t.Failed() {
		return
	}
	// More of each than there may be.
	l = slices.Repeat(l, 50)
	if first, others, ok := Over(l, two(add("b"))); !ok || len(others) != 3000 || show(first) != show(two(add("b"))) {
		t.Errorf("3000 patches: %s, %d, %v", short(first), len(others), ok)
	}
	huge := api.Named{Deps: make([]api.Id, full), Text: of(full, "x"), L: make([]api.Prim, 1<<18)}
	if _, _, ok := Pass(huge, huge); ok {
		t.Error("a huge one passes itself")
	}
	huge.Id = id(1, 1)
	if ahead, behind, ok := Pass(huge, api.Named{}); !ok || len(behind.L) != 1<<18 || len(behind.Deps) != full || len(ahead.L) != 0 {
		t.Error("a huge one is not passed by noughts")
	}
	if first, others, ok := Over(make([]api.Named, 1<<18), two(wrong()...)); !ok || len(others) != 1<<18 || len(first.L) != len(wrong()) {
		t.Error("noughts, and many of them, are not passed")
	}
}

// chosen is a patch of whatever next chooses, that may be or not.
func chosen(next func(int) int) api.Named {
	some := []int{0, 1, 2, 7, 8, -1, full, full + 1, math.MaxInt, math.MinInt}
	number := func() int { return some[next(next(len(some))+1)] }
	p := api.Named{Id: id(number(), number()), Text: []string{"", "t", of(80, "t"), of(81, "t"), "t\n", "\n"}[next(next(6)+1)]}
	for range next(4) {
		p.Deps = append(p.Deps, id(number(), number()))
	}
	for range next(4) {
		if next(20) == 0 {
			p.L = append(p.L, wrong()[next(len(wrong()))])
		} else {
			p.L = append(p.L, fair()[next(len(fair()))])
		}
	}
	return p
}

// R1, R4: whatever is given, nothing panics, and what can't pass is noughts.
func TestWhateverIsGiven(t *testing.T) {
	chance := rand.New(rand.NewPCG(15, 3))
	passed := 0
	for range 10000 {
		var l []api.Named
		for range chance.IntN(4) {
			l = append(l, chosen(chance.IntN))
		}
		q := chosen(chance.IntN)
		for _, p := range l {
			checkPass(t, p, q)
		}
		if checkOver(t, l, q) && len(l) > 1 {
			passed++
		}
		if t.Failed() {
			return
		}
	}
	if passed < 250 {
		t.Errorf("only %d pass", passed)
	}
}

// markedLines is l with room behind it, in which a write is seen; so are marked patches, with their Deps, changes and lines.
func markedLines(l []string) []string { return append(slices.Clone(l), "mark", "mark")[:len(l)] }

func marked(l []api.Named) []api.Named {
	out := append(slices.Clone(l), api.Named{Text: "mark"}, api.Named{Text: "mark"})[:len(l)]
	for k, p := range l {
		out[k].Deps = append(slices.Clone(p.Deps), id(99, 99), id(99, 99))[:len(p.Deps)]
		out[k].L = append(slices.Clone(p.L), add("mark"), add("mark"))[:len(p.L)]
		for n, q := range p.L {
			out[k].L[n].H.Old, out[k].L[n].H.New = markedLines(q.H.Old), markedLines(q.H.New)
		}
	}
	return out
}

// wide shows all of marked patches, with the room behind whatever they have.
func wide(l []api.Named) string {
	l = copiedRoom(l)
	for k, p := range l {
		l[k].Deps, l[k].L = room(p.Deps), copiedRoom(p.L)
		for n, q := range l[k].L[:len(p.L)] {
			l[k].L[n].H.Old, l[k].L[n].H.New = room(q.H.Old), room(q.H.New)
		}
	}
	return showAll(l)
}

// room is a list with what stands in the two places behind it, if it has such; copiedRoom the same in memory of its own.
func room[T any](l []T) []T { return l[:min(cap(l), len(l)+2)] }

func copiedRoom[T any](l []T) []T { return slices.Clone(room(l)) }

// spoilAll writes over a list, and over the room behind it; spoil over all that a patch has, spoilPatches over patches.
func spoilAll[T any](l []T, with T) {
	l = l[:cap(l)]
	for k := range l {
		l[k] = with
	}
}

func spoil(p api.Named) {
	for _, q := range p.L {
		spoilAll(q.H.Old, "spoilt")
		spoilAll(q.H.New, "spoilt")
	}
	spoilAll(p.L, api.Prim{Kind: 9, Name: "spoilt"})
	spoilAll(p.Deps, id(-7, -7))
}

func spoilPatches(l []api.Named) {
	for _, p := range l {
		spoil(p)
	}
	spoilAll(l, api.Named{Text: "spoilt"})
}

// checkApart holds, of patches that are answered, that none of their Deps, changes and lines share memory.
func checkApart(t *testing.T, what string, l []api.Named) {
	t.Helper()
	var lines, was [][]string
	for _, p := range l {
		for _, q := range p.L {
			lines = append(lines, q.H.Old, q.H.New)
			was = append(was, slices.Clone(q.H.Old), slices.Clone(q.H.New))
		}
	}
	for k, some := range lines {
		spoilAll(some, "spoilt")
		for n := k + 1; n < len(lines); n++ {
			if !slices.Equal(lines[n], was[n]) {
				t.Fatalf("%s: lists of lines %d and %d of what is answered are shared", what, k, n)
			}
		}
	}
	for k, p := range l {
		left := showAll(l[k+1:])
		spoil(p)
		if showAll(l[k+1:]) != left {
			t.Fatalf("%s: the Deps, or the changes, of patch %d of what is answered are shared", what, k)
		}
	}
}

// ask is all that can be asked of patches that are in one list: the last one passes the others, and each passes the one ahead of it; and what is answered, patch by patch.
func ask(l []api.Named) (answers [][]api.Named) {
	n := len(l) - 1
	first, others, _ := Over(l[:n], l[n])
	answers = append(answers, append([]api.Named{first}, others...))
	for k := range n {
		ahead, behind, _ := Pass(l[k], l[k+1])
		answers = append(answers, []api.Named{ahead, behind})
	}
	alone, _, _ := Over(nil, l[n])
	return append(answers, []api.Named{alone})
}

// checkOwn holds R3: what is handed in stays, its room too, and what is answered shares nothing with that, nor within itself.
func checkOwn(t *testing.T, l []api.Named) {
	t.Helper()
	in := marked(l)
	was := wide(in)
	stays := func(what string) {
		t.Helper()
		if wide(in) != was {
			t.Fatalf("%s: what was handed in is now %s: %s", short(l), short(in), what)
		}
	}
	answers := ask(in)
	stays("changed")
	var want []string
	for _, answer := range answers {
		want = append(want, showAll(answer))
		checkApart(t, short(l), answer)
	}
	stays("shared with what is answered")
	// The list of Over, too, is the caller's own.
	if _, others, ok := Over(in[:len(in)-1], in[len(in)-1]); ok {
		spoilPatches(others)
		stays("shared with the list that is answered")
	}
	answers = ask(in)
	spoilPatches(in)
	for k, answer := range answers {
		if showAll(answer) != want[k] {
			t.Errorf("%s: what was answered is then %s", short(l), short(answer))
		}
	}
}

// R3: patches that pass and such that don't, such as may not be, such without changes and without Deps, and none.
func TestNothingIsShared(t *testing.T) {
	some := [][]api.Prim{
		nil, list(), list(add("a")), list(put("a", 0, "", "x y"), put("a", 9, "x", "")), list(put("b", 20, "x y", "z v")), list(move("a", "c"), set("d", "x", "y z")), list(put("b", 7, "", "")),
		list(with(put("b", 30, "", ""), api.Hunk{At: 30, Old: []string{}, New: []string{}})), list(api.Prim{Kind: 5, Name: "a", H: api.Hunk{Old: words("x y"), New: words("z")}}), wrong(), fair(),
	}
	for _, a := range some {
		checkOwn(t, story(a))
		for _, b := range some {
			checkOwn(t, story(a, b))
			for _, c := range some {
				l := story(a, b, c)
				checkOwn(t, l)
				l[0].Deps, l[2].Deps = []api.Id{l[2].Id, id(5, 5)}, []api.Id{}
				checkOwn(t, l)
				l[2].Deps = []api.Id{id(5, 5), l[0].Id}
				checkOwn(t, l)
			}
		}
	}
}

// R3: one list of lines that all changes have, and pieces of it; one list of changes that all patches have, and pieces of it; one list of Deps, and pieces of it; one patch many times, and pieces of one list of patches.
func TestOneListManyTimes(t *testing.T) {
	lines := markedLines(words("x y x y"))
	changes := list(
		with(put("a", 0, "", ""), api.Hunk{At: 0, Old: lines[:2], New: lines}), with(put("a", 0, "", ""), api.Hunk{At: 40, Old: lines, New: lines[:2]}), with(put("a", 0, "", ""), api.Hunk{At: 60, Old: lines[:0], New: lines[:0]}),
		with(put("b", 0, "", ""), api.Hunk{At: 2, New: lines[1:3]}), with(put("b", 0, "", ""), api.Hunk{At: 30, Old: lines[1:3]}), with(put("c", 0, "", ""), api.Hunk{Old: lines[4:], New: lines[4:]}),
	)
	deps := ids(0, 1, 0, 2, 1, 1, 9, 9)
	l := []api.Named{
		{Id: id(5, 1), Deps: deps[:3], L: changes[:2]}, {Id: id(5, 2), Deps: deps[:3], L: changes[3:]}, {Id: id(5, 3), Deps: deps[1:2], L: changes[2:4]}, {Id: id(5, 4), Deps: deps[:0], L: changes[4:]},
		{Id: id(5, 5), Deps: deps[3:], L: changes[:0]}, {Id: id(9, 9), Deps: deps, L: changes},
	}
	passed := 0
	check := func(l []api.Named) {
		t.Helper()
		before, n := wide(l), len(l)-1
		wantFirst, wantOthers, want := toldOver(copiedAll(l[:n]), copied(l[n]))
		first, others, ok := Over(l[:n], l[n])
		if ok != want || show(first) != show(wantFirst) || showAll(others) != showAll(wantOthers) {
			t.Errorf("%s: %s, %s, %v", short(l), short(first), short(others), ok)
		}
		if ok {
			passed++
		}
		for _, answer := range append(ask(l), append(others, first)) {
			checkApart(t, short(l), answer)
		}
		if wide(l) != before || !slices.Equal(lines[:6], words("x y x y mark mark")) {
			t.Fatalf("%s: is now %s, %q", before, short(l), lines[:6])
		}
	}
	for i := range l {
		for j := i + 1; j <= len(l); j++ {
			check(l[i:j])
		}
		for j := range l {
			check([]api.Named{l[i], l[j]})
			check([]api.Named{l[i], l[i], l[j]})
			check([]api.Named{l[i], l[j], l[i]})
			check([]api.Named{l[i], l[j], l[j], l[j]})
		}
	}
	if passed < 40 {
		t.Errorf("only %d pass", passed)
	}
	// Those that are passed, and the one that passes them, are places of one list.
	some := story(list(put("a", 5, "x", "y z")), list(put("b", 0, "", "x")), list(put("a", 0, "", "y")), list(add("d")))
	was := showAll(some)
	if first, others, ok := Over(some[:2], some[2]); !ok || len(others) != 2 || show(first) != show(some[2]) || showAll(some) != was {
		t.Errorf("%v, %v, %v, %v", some, first, others, ok)
	}
}

// R5: what is asked does not hang on what was asked ahead of it, nor on what went wrong there.
func TestAskedOnceMore(t *testing.T) {
	p, q := one(put("a", 0, "", "x"), move("a", "b")), two(put("b", 5, "y", ""))
	asked := func() string {
		return fmt.Sprint(Pass(p, q)) + fmt.Sprint(Pass(q, p)) + fmt.Sprint(Over([]api.Named{p, {}}, q)) + fmt.Sprint(Over(nil, q))
	}
	first := asked()
	want := "{{1 4} [{3 4} {3 6} {7 5}] two, and more [{3 a  {4 [y] []}}]} {{3 5} [{0 1} {2 7}] one [{3 a  {0 [] [x]}} {2 a b {0 [] []}}]} true" +
		"{{0 0} [] } {{0 0} [] } false" +
		"{{1 4} [{3 4} {3 6} {7 5}] two, and more [{3 a  {4 [y] []}}]} [{{3 5} [{0 1} {2 7}] one [{3 a  {0 [] [x]}} {2 a b {0 [] []}}]} {{0 0} []  []}] true" +
		"{{1 4} [{3 4} {3 6} {7 5}] two, and more [{3 b  {5 [y] []}}]} [] true"
	if want = strings.ReplaceAll(want, "[] }", "[]  []}"); first != want {
		t.Errorf("%s, not %s", first, want)
	}
	hung := copied(q)
	hung.Deps = []api.Id{p.Id}
	Pass(p, hung)
	Over([]api.Named{p, p}, hung)
	for _, bad := range wrong() {
		Pass(p, two(bad))
		Pass(one(bad), q)
		Over([]api.Named{p, one(bad), p}, q)
	}
	if again := asked(); again != first {
		t.Errorf("%s, and then %s", first, again)
	}
}

func FuzzTrade(f *testing.F) {
	f.Add([]byte{}, []byte{}, byte(0))
	f.Add([]byte{5, 3, 1, 2, 3, 4, 5, 6, 1, 0, 2}, []byte{5, 1, 9, 0, 20, 1}, byte(40))
	f.Add([]byte{0, 4, 9, 0, 1, 1, 5, 0, 1, 1, 30, 1, 2, 1, 1}, []byte{9, 0, 7, 1, 3, 0, 3, 0, 4, 1, 1, 1}, byte(20))
	f.Add([]byte{200, 17, 3, 255, 1, 90, 7, 8, 4, 3, 5, 6, 7, 8, 9}, []byte{200, 11, 0, 3, 2, 1, 100, 4, 4}, byte(5))
	f.Fuzz(func(t *testing.T, made, other []byte, size byte) {
		start := begin(int(size))
		l, _ := told(start, 1+min(7, len(made)/3), from(made))
		n := len(l) - 1
		check := func(l []api.Named) {
			for k := range n {
				checkPass(t, l[k], l[k+1])
			}
			for k := range l {
				checkOver(t, l[k:n], l[n])
			}
			checkTree(t, start, l[:n], l[n])
			checkOwn(t, l)
		}
		check(l)
		next := from(other)
		for range 3 {
			odd := slices.Clone(l)
			odd[next(len(odd))] = chosen(next)
			check(odd)
		}
	})
}

// from chooses by bytes, one by one; when there are none any more, it chooses 0.
func from(b []byte) func(int) int {
	return func(n int) int {
		if len(b) == 0 || n == 0 {
			return 0
		}
		k := int(b[0]) % n
		b = b[1:]
		return k
	}
}
