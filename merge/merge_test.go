package merge

import (
	"fmt"
	"math"
	"math/rand/v2"
	"slices"
	"strconv"
	"strings"
	"testing"

	"quiltmaker/api"
	"quiltmaker/blame"
	"quiltmaker/bubble"
	"quiltmaker/pass"
	"quiltmaker/prim"
	"quiltmaker/trade"
)

const full = 1 << 20

// words is a list of the words of s; numbers are those of which s tells.
func words(s string) []string { return strings.Fields(s) }

func numbers(s string) []int {
	var l []int
	for _, w := range words(s) {
		n, _ := strconv.Atoi(w)
		l = append(l, n)
	}
	return l
}

// of is n bytes of s, one behind the other; many a list of n lines s; numbered are n lines, no two of which are the same.
func of(n int, s string) string { return strings.Repeat(s, n) }

func many(n int, s string) []string { return slices.Repeat([]string{s}, n) }

func numbered(n int) []string {
	var l []string
	for k := range n {
		l = append(l, fmt.Sprint("l", k))
	}
	return l
}

// id is an id; ids are some, of a Who and a No each; counted are n of who, that rise, the first one with the No from.
func id(who, no int) api.Id { return api.Id{Who: who, No: no} }

func ids(l ...int) []api.Id {
	var out []api.Id
	for k := 0; k+1 < len(l); k += 2 {
		out = append(out, id(l[k], l[k+1]))
	}
	return out
}

func counted(n, who, from int) []api.Id {
	var out []api.Id
	for k := range n {
		out = append(out, id(who, from+k))
	}
	return out
}

// add, rm, move, put and setAll are changes of each kind, as they may be.
func add(name string) api.Prim { return api.Prim{Kind: 0, Name: name} }

func rm(name string) api.Prim { return api.Prim{Kind: 1, Name: name} }

func move(name, to string) api.Prim { return api.Prim{Kind: 2, Name: name, To: to} }

func put(name string, at int, old, now string) api.Prim {
	return api.Prim{Kind: 3, Name: name, H: api.Hunk{At: at, Old: words(old), New: words(now)}}
}

func setAll(name, old, now string) api.Prim {
	return api.Prim{Kind: 4, Name: name, H: api.Hunk{Old: words(old), New: words(now)}}
}

// with is p with another H.
func with(p api.Prim, h api.Hunk) api.Prim {
	p.H = h
	return p
}

// file is a file with lines; list are changes; abcde are those that make a file of five lines.
func file(name, lines string) api.File { return api.File{Name: name, Lines: words(lines)} }

func list(l ...api.Prim) []api.Prim { return l }

func abcde() []api.Prim { return list(add("a"), put("a", 0, "", "a b c d e")) }

// story are patches, each of some changes; each has an Id, Deps and a Text of its own, and none hangs on one of them by Deps.
func story(l ...[]api.Prim) []api.Named {
	var out []api.Named
	for k, changes := range l {
		out = append(out, api.Named{Id: id(k%8, 10+k/8), Deps: counted(k%4, k%8, 1), Text: fmt.Sprint("t", k), L: changes})
	}
	return out
}

// some are those of l of whose numbers s tells; but is l, in which patch k has other changes; hung is l, in which patch k hangs by Deps on some.
func some(l []api.Named, s string) []api.Named {
	var out []api.Named
	for _, n := range numbers(s) {
		out = append(out, l[n])
	}
	return out
}

func but(l []api.Named, k int, changes ...api.Prim) []api.Named {
	l = slices.Clone(l)
	l[k].L = changes
	return l
}

func hung(l []api.Named, k int, on ...int) []api.Named {
	l = slices.Clone(l)
	l[k].Deps = nil
	for _, n := range on {
		l[k].Deps = append(l[k].Deps, l[n].Id)
	}
	return l
}

// showAll is all of patches; lists without elements are shown the same.
func showAll(l []api.Named) string {
	s := fmt.Sprint(len(l), "\n")
	for _, p := range l {
		s += showHead(p)
		for _, q := range p.L {
			s += fmt.Sprintf("%d %q %q %d %q %q\n", q.Kind, q.Name, q.To, q.H.At, append([]string{}, q.H.Old...), append([]string{}, q.H.New...))
		}
	}
	return s
}

// showHead is all that a patch has beside its changes, and how many these are; showTree all of a tree.
func showHead(p api.Named) string {
	return fmt.Sprintf("%d %d %v %q %d\n", p.Id.Who, p.Id.No, append([]api.Id{}, p.Deps...), p.Text, len(p.L))
}

func showTree(t api.Tree) string {
	s := ""
	for _, f := range t {
		s += fmt.Sprintf("%q %q\n", f.Name, append([]string{}, f.Lines...))
	}
	return s
}

// short is what is told of something in a test's log.
func short(x any) string {
	s := fmt.Sprint(x)
	if len(s) > 600 {
		s = s[:300] + " .. " + s[len(s)-300:]
	}
	return s
}

// wrong are changes that may not be: each for one thing alone, or for more.
func wrong() []api.Prim {
	return list(
		api.Prim{}, api.Prim{Kind: -1, Name: "a"}, api.Prim{Kind: 5, Name: "a"}, api.Prim{Kind: math.MinInt, Name: "a"}, api.Prim{Kind: math.MaxInt, Name: "a", To: "b"},
		add("A"), add(of(17, "a")), with(add("a"), api.Hunk{New: words("x")}), rm("a b"), with(rm("a"), api.Hunk{At: 1}),
		move("a", ""), move("a", "a"), move("", "b"), with(move("a", "b"), api.Hunk{Old: words("x")}),
		put("", 0, "", "x"), put("a", -1, "", "x"), put("a", full+1, "", "x"), put("a", math.MaxInt, "x", ""), put("a", math.MinInt, "", ""),
		with(put("a", 0, "", ""), api.Hunk{Old: []string{"\n"}}), with(put("a", 0, "", ""), api.Hunk{New: []string{of(81, "x")}}), with(put("a", 0, "", ""), api.Hunk{New: many(201, "x")}),
		setAll("", "", "x"), with(setAll("a", "", ""), api.Hunk{At: 1, New: words("x")}), with(setAll("a", "", ""), api.Hunk{Old: many(201, "x")}),
	)
}

// fair are changes of each kind that may be; which name a, b and c.
func fair() []api.Prim {
	return list(
		add("a"), add("b"), rm("a"), rm("b"), move("a", "b"), move("b", "c"), put("a", 0, "", "x"), put("a", 3, "x", ""), put("b", 1, "y", "z"), put("b", 5, "", "x y"),
		setAll("a", "", "x"), setAll("b", "x y", ""),
	)
}

// toldApply is a tree that patches change, change by change.
func toldApply(t api.Tree, l []api.Named) (api.Tree, api.Errno) {
	for _, p := range l {
		for _, q := range p.L {
			next, e := prim.Apply(t, q)
			if e != 0 {
				return nil, e
			}
			t = next
		}
	}
	return t, 0
}

// haveId tells whether one of patches has an id.
func haveId(l []api.Named, i api.Id) bool {
	for _, p := range l {
		if p.Id.Who == i.Who && p.Id.No == i.No {
			return true
		}
	}
	return false
}

// toldMissing are the Ids of b's patches of which a has none.
func toldMissing(a, b []api.Named) []api.Id {
	var out []api.Id
	for _, p := range b {
		if !haveId(a, p.Id) {
			out = append(out, p.Id)
		}
	}
	return out
}

// toldTwice tells whether an Id stands twice.
func toldTwice(l []api.Named) bool {
	for k, p := range l {
		if haveId(l[:k], p.Id) {
			return true
		}
	}
	return false
}

// toldPart are those of l that stay, and those that are put behind, those that b has not, and all that hang on these: in one list, in which each that comes goes ahead, place by place, till all that were put behind are behind it.
func toldPart(l, b []api.Named) (stay, gone []api.Named) {
	joint, stays := slices.Clone(l), 0
	for k, p := range l {
		try, can := slices.Clone(joint), haveId(b, p.Id)
		for n := k; can && n > stays; n-- {
			try[n-1], try[n], can = trade.Pass(try[n-1], try[n])
		}
		if can {
			joint = try
			stays++
		}
	}
	return joint[:stays], joint[stays:]
}

// toldMerge is what P18.1 tells, the other way about: each of own, turned, from the first one on, goes behind all of theirs.
func toldMerge(a, b []api.Named) ([]api.Named, api.Errno) {
	if toldTwice(a) || toldTwice(b) {
		return nil, api.ErrArg
	}
	_, own := toldPart(a, b)
	_, theirs := toldPart(b, a)
	for _, p := range slices.Concat(own, theirs) {
		if haveId(a, p.Id) && haveId(b, p.Id) {
			return nil, api.ErrHang
		}
	}
	for k := range theirs {
		theirs[k].L = slices.Clone(theirs[k].L)
	}
	for _, p := range own {
		for _, c := range p.L {
			c = prim.Turn(c)
			for _, q := range theirs {
				for n := range q.L {
					first, second, ok := pass.Pass(c, q.L[n])
					if !ok {
						return nil, api.ErrClash
					}
					q.L[n], c = first, second
				}
			}
		}
	}
	return slices.Concat(a, theirs), 0
}

// checkMissing holds Missing as it is told.
func checkMissing(t *testing.T, a, b []api.Named) {
	t.Helper()
	if got, want := Missing(a, b), toldMissing(a, b); !slices.Equal(got, want) {
		t.Fatalf("%s, %s: %s, not %s", short(a), short(b), short(got), short(want))
	}
}

// checkWay holds Merge, one way round, as it is told; that all patches of both are there, each once, and with what stays with it; and that with an error there is nothing.
func checkWay(t *testing.T, a, b []api.Named) ([]api.Named, api.Errno) {
	t.Helper()
	got, e := Merge(a, b)
	want, f := toldMerge(a, b)
	if e != f || showAll(got) != showAll(want) {
		t.Fatalf("%s, %s: %s, error %d, not %s, error %d", short(a), short(b), short(got), e, short(want), f)
	}
	if e != 0 {
		if got != nil {
			t.Fatalf("%s, %s: error %d, and %s", short(a), short(b), e, short(got))
		}
		return nil, e
	}
	if len(got) < len(a) || showAll(got[:len(a)]) != showAll(a) {
		t.Fatalf("%s, %s: %s does not begin with the first ones", short(a), short(b), short(got))
	}
	k := len(a)
	for _, p := range b {
		if haveId(a, p.Id) {
			continue
		}
		if k == len(got) || showHead(got[k]) != showHead(p) {
			t.Fatalf("%s, %s: %s has not %s at %d", short(a), short(b), short(got), short(p), k)
		}
		k++
	}
	if k != len(got) {
		t.Fatalf("%s, %s: %s has more than both", short(a), short(b), short(got))
	}
	return got, 0
}

// apart tells whether no patch that one of both alone has is said by Deps to hang on one that the other one alone has.
func apart(a, b []api.Named) bool {
	for _, p := range a {
		for _, d := range p.Deps {
			if !haveId(b, p.Id) && haveId(b, d) && !haveId(a, d) {
				return false
			}
		}
	}
	return true
}

// checkAgain holds, of what is merged, both ways round, that to merge it with itself, or with one of both, once more changes nothing, and that one of both, merged with it, has what it has merged with the other one.
func checkAgain(t *testing.T, a, b, got, back []api.Named) {
	t.Helper()
	ask := func(a, b, want []api.Named) {
		t.Helper()
		if l, e := checkWay(t, a, b); e != 0 || showAll(l) != showAll(want) {
			t.Fatalf("%s, %s: once more: %s, error %d, not %s", short(a), short(b), short(l), e, short(want))
		}
	}
	ask(got, got, got)
	// Where they stand in one list, those that hang by Deps on one of the other one's are put behind with it.
	if !apart(a, b) || !apart(b, a) {
		return
	}
	ask(got, a, got)
	ask(got, b, got)
	ask(a, got, got)
	ask(b, got, back)
	ask(got, back, got)
}

// check holds all that can be held of two lists of patches, both ways round. It tells the error, and whether one of theirs is another one then.
func check(t *testing.T, a, b []api.Named) (e api.Errno, other bool) {
	t.Helper()
	checkMissing(t, a, b)
	checkMissing(t, b, a)
	got, e := checkWay(t, a, b)
	back, f := checkWay(t, b, a)
	if e != f {
		t.Fatalf("%s, %s: error %d, and %d the other way round", short(a), short(b), e, f)
	}
	if e != 0 {
		return e, false
	}
	checkAgain(t, a, b, got, back)
	_, theirs := toldPart(b, a)
	return 0, showAll(got[len(a):]) != showAll(theirs)
}

// checkTree holds, of P18.2, where both change a tree, and what both have changes it to one, that what is merged changes it to the same, both ways round. It tells whether that is so.
func checkTree(t *testing.T, x api.Tree, a, b []api.Named) bool {
	t.Helper()
	got, e := Merge(a, b)
	if e != 0 {
		return false
	}
	for _, l := range [][]api.Named{a, b} {
		if _, e := toldApply(x, l); e != 0 {
			return false
		}
	}
	stayA, _ := toldPart(a, b)
	stayB, _ := toldPart(b, a)
	bothA, e1 := toldApply(x, stayA)
	bothB, e2 := toldApply(x, stayB)
	if e1 != 0 || e2 != 0 || showTree(bothA) != showTree(bothB) {
		return false
	}
	back, _ := Merge(b, a)
	u, e1 := toldApply(x, got)
	v, e2 := toldApply(x, back)
	if e1 != 0 || e2 != 0 || showTree(u) != showTree(v) {
		t.Fatalf("%s, %s, %s: %s makes %s, error %d; %s makes %s, error %d", short(x), short(a), short(b), short(got), short(u), e1, short(back), short(v), e2)
	}
	return true
}

// lines are the lines that patches make of nothing, by their births.
func lines(t *testing.T, l []api.Named) map[api.Birth]string {
	t.Helper()
	made, e := toldApply(nil, l)
	origins, f := blame.Origins(l)
	if e != 0 || f != 0 || len(made) != len(origins) {
		t.Fatalf("%s: %s, %s, errors %d, %d", short(l), short(made), short(origins), e, f)
	}
	out := map[api.Birth]string{}
	for k, o := range origins {
		for n, b := range o.L {
			out[b] = made[k].Lines[n]
		}
	}
	return out
}

// checkBirths holds, of P4, for two that come from one and are merged, that no line's birth changes: a line stands there, and as it did, if both have it, or if one has it that what both have does not make; and that all of it is so both ways round.
func checkBirths(t *testing.T, a, b []api.Named) int {
	t.Helper()
	got, e := Merge(a, b)
	back, f := Merge(b, a)
	there, e1 := blame.Origins(got)
	andBack, e2 := blame.Origins(back)
	if e|f|e1|e2 != 0 || fmt.Sprint(there) != fmt.Sprint(andBack) {
		t.Fatalf("%s, %s: %s and %s, errors %d, %d, %d, %d", short(a), short(b), short(there), short(andBack), e, f, e1, e2)
	}
	stay, _ := toldPart(a, b)
	ofA, ofB, ofBoth, now := lines(t, a), lines(t, b), lines(t, stay), lines(t, got)
	want := map[api.Birth]string{}
	keep := func(from, other map[api.Birth]string) {
		for birth, line := range from {
			_, had := ofBoth[birth]
			if _, both := other[birth]; both || !had {
				want[birth] = line
			}
		}
	}
	keep(ofA, ofB)
	keep(ofB, ofA)
	if fmt.Sprint(now) != fmt.Sprint(want) {
		t.Fatalf("%s, %s: %s, not %s", short(a), short(b), short(now), short(want))
	}
	return len(now)
}

// pair are two lists, the error, and what stands behind each of both then.
type pair struct {
	a, b         []api.Named
	e            api.Errno
	behind, back []api.Named
}

// good, and bad, are such without and with an error, of those of l of whose numbers is told.
func good(l []api.Named, a, b, behind, back string) pair {
	return pair{some(l, a), some(l, b), 0, some(l, behind), some(l, back)}
}

func bad(e api.Errno, l []api.Named, a, b string) pair {
	return pair{some(l, a), some(l, b), e, nil, nil}
}

// theirs is a good pair of what two patches do behind a file of five lines: own, and theirs, and what each of both is then.
func theirs(own, their, behind, back []api.Prim) pair {
	l := story(abcde(), own, their)
	return pair{some(l, "0 1"), some(l, "0 2"), 0, but(l, 2, behind...)[2:], but(l, 1, back...)[1:2]}
}

// hold holds what is answered against what is wanted, both ways round.
func (p pair) hold(t *testing.T) {
	t.Helper()
	ask := func(a, b, behind []api.Named) {
		t.Helper()
		var want []api.Named
		if p.e == 0 {
			want = slices.Concat(a, behind)
		}
		if got, e := Merge(a, b); e != p.e || showAll(got) != showAll(want) {
			t.Errorf("%s, %s: %s, error %d, not %s, error %d", short(a), short(b), short(got), e, short(want), p.e)
		}
	}
	ask(p.a, p.b, p.behind)
	ask(p.b, p.a, p.back)
	check(t, p.a, p.b)
	for _, x := range []api.Tree{nil, {file("a", "a b c d e")}, {file("a", "a b c d e"), file("b", "a b c d e")}} {
		checkTree(t, x, p.a, p.b)
	}
}

// The chapter's example: a file with lines a to e; one changes a, the other one e: both are changed. If both change a: a clash.
func TestExample(t *testing.T) {
	both := api.Named{Id: id(7, 1), L: abcde()}
	x, y := api.Named{Id: id(0, 1), L: list(put("a", 0, "a", "x"))}, api.Named{Id: id(1, 1), L: list(put("a", 4, "e", "y"))}
	a, b := []api.Named{both, x}, []api.Named{both, y}
	for _, z := range [][][]api.Named{{a, b}, {b, a}} {
		l, e := Merge(z[0], z[1])
		made, f := toldApply(nil, l)
		if e != 0 || f != 0 || showTree(made) != showTree(api.Tree{file("a", "x b c d y")}) || len(l) != 3 {
			t.Errorf("%s makes %s, errors %d, %d", short(l), short(made), e, f)
		}
	}
	y.L = list(put("a", 0, "a", "y"))
	bad(api.ErrClash, []api.Named{both, x, y}, "0 1", "0 2").hold(t)
	if got := Missing(a, b); !slices.Equal(got, ids(1, 1)) {
		t.Errorf("%v", got)
	}
	// Example 4 of the whole: of a b c, one puts x behind, another one makes a y: y b c x, both ways round; if both change the first line, that is a clash.
	both.L = list(add("a"), put("a", 0, "", "a b c"))
	x.L, y.L = list(put("a", 3, "", "x")), list(put("a", 0, "a", "y"))
	good([]api.Named{both, x, y}, "0 1", "0 2", "2", "1").hold(t)
	l, _ := Merge([]api.Named{both, x}, []api.Named{both, y})
	if made, e := toldApply(nil, l); e != 0 || showTree(made) != showTree(api.Tree{file("a", "y b c x")}) {
		t.Errorf("%s makes %s, error %d", short(l), short(made), e)
	}
	x.L = list(put("a", 0, "a", "x"))
	bad(api.ErrClash, []api.Named{both, x, y}, "0 1", "0 2").hold(t)
}

// three are patches that pass one another as they are; odd such as may not be, but those without changes.
func three() []api.Named { return story(list(add("a")), list(add("b")), list(add("c"))) }

func odd() []api.Named { return story(wrong(), nil, wrong(), list(add("d"))) }

// P18.1: the Ids of which one has none, in order, whatever else the patches have.
func TestMissing(t *testing.T) {
	five := story(list(add("a")), nil, wrong(), list(add("a")), nil)
	for _, c := range []struct{ a, b, want string }{
		// No patches; the same; all missing, none; the first one, one in between, the last one.
		{"", "", ""}, {"0 1 2", "", ""}, {"", "0 1 2", "0 1 2"}, {"0 1 2", "0 1 2", ""}, {"0 1 2", "2 0 1", ""}, {"3 4", "0 1 2", "0 1 2"}, {"0 1 2 3 4", "1 3", ""},
		{"1 2", "0 1 2", "0"}, {"0 2", "0 1 2", "1"}, {"0 1", "0 1 2", "2"}, {"2 0", "0 1 2", "1"}, {"1", "0 1 2", "0 2"}, {"4 1", "0 1 2 3 4", "0 2 3"},
		// In the order of the second one's, whatever is the first one's.
		{"1", "4 3 2 1 0", "4 3 2 0"}, {"4 0 3", "2 0 1", "2 1"},
		// Twice: in the first one, in the second one, in both.
		{"0 0", "0 1", "1"}, {"0", "1 1", "1 1"}, {"0", "1 0 2 0 1", "1 2 1"}, {"0 0", "0 0", ""}, {"0 1 0", "2 0 2 2 3 0", "2 2 2 3"},
	} {
		var want []api.Id
		for _, p := range some(five, c.want) {
			want = append(want, p.Id)
		}
		a, b := some(five, c.a), some(five, c.b)
		if got := Missing(a, b); !slices.Equal(got, want) {
			t.Errorf("%s, %s: %v, not %v", c.a, c.b, got, want)
		}
		checkMissing(t, a, b)
		// Only the Id is asked for.
		for k := range a {
			a[k].Deps, a[k].Text, a[k].L = ids(1, 2), "other", nil
		}
		if got := Missing(a, b); !slices.Equal(got, want) {
			t.Errorf("%s, %s: others: %v, not %v", c.a, c.b, got, want)
		}
	}
	// Ids that may not be, and such as are nearly the same.
	all := ids(0, 0, 3, 5, 5, 3, 3, 6, 3, -5, -3, 5, 3, 5+1<<32, 3+1<<32, 5, math.MaxInt, math.MinInt, math.MinInt, math.MaxInt, 8, full+1)
	for k, i := range all {
		var b []api.Named
		for _, j := range all {
			b = append(b, api.Named{Id: j})
		}
		if got := Missing([]api.Named{{Id: i}}, b); !slices.Equal(got, slices.Delete(slices.Clone(all), k, k+1)) {
			t.Errorf("%v: %v", i, got)
		}
		check(t, b[k:k+1], b)
		check(t, b[:k], b[k:])
	}
}

// P18.1, P18.2: which patches stand behind then.
func TestWhich(t *testing.T) {
	bare := story(nil, list(add("a")), nil, list(add("b")), list())
	for _, c := range []pair{
		// No patches in both, in one.
		good(three(), "", "", "", ""), good(three(), "0", "", "", "0"), good(three(), "", "0 1 2", "0 1 2", ""), good(three(), "2 0", "", "", "2 0"),
		// The same, in any order.
		good(three(), "0", "0", "", ""), good(three(), "0 1 2", "0 1 2", "", ""), good(three(), "0 1 2", "2 0 1", "", ""), good(three(), "1 0", "0 1", "", ""),
		// A beginning of the other one's; its end; some of it.
		good(three(), "0", "0 1 2", "1 2", ""), good(three(), "0 1 2", "0 1", "", "2"), good(three(), "1 2", "0 1 2", "0", ""), good(three(), "0 2", "0 1 2", "1", ""), good(three(), "1", "0 1 2", "0 2", ""), good(three(), "2 0", "0 1 2", "1", ""),
		// Nothing in common; something, ahead of the others, between, and behind them.
		good(three(), "0", "1", "1", "0"), good(three(), "0", "1 2", "1 2", "0"), good(three(), "0 1", "2", "2", "0 1"), good(three(), "0", "2 1", "2 1", "0"),
		good(three(), "0 1", "0 2", "2", "1"), good(three(), "1 0", "0 2", "2", "1"), good(three(), "0 1", "2 0", "2", "1"), good(three(), "1 0", "2 0", "2", "1"), good(three(), "0 1 2", "2", "", "0 1"),
		// Patches without changes.
		good(bare, "", "0", "0", ""), good(bare, "0", "0", "", ""), good(bare, "0 2", "4", "4", "0 2"), good(bare, "0 1", "2 3 4", "2 3 4", "0 1"), good(bare, "1 0", "0 3", "3", "1"), good(bare, "0 1 2 3 4", "2", "", "0 1 3 4"), good(bare, "2 1 0", "0 3 2 4", "3 4", "1"),
		// A patch of theirs that hangs on another one of theirs, by changes, and by Deps; such in both.
		good(story(list(add("a")), list(add("b")), list(put("b", 0, "", "x")), list(put("b", 0, "x", ""), rm("b"))), "0", "1 2 3", "1 2 3", "0"),
		good(hung(hung(three(), 2, 1), 1), "0", "1 2", "1 2", "0"), good(hung(three(), 1, 0), "", "0 1", "0 1", ""), good(hung(story(list(add("a")), list(add("b")), list(add("c")), list(put("c", 0, "", "x"))), 1, 0), "0 1", "2 3", "2 3", "0 1"),
		// One that hangs on what both have; on one that is not there; on itself, and on one behind it.
		good(hung(hung(three(), 1, 0), 2, 0), "0 1", "0 2", "2", "1"), good(story(list(add("a")), list(put("a", 0, "", "x")), list(add("b"))), "0 1", "0 2", "2", "1"), good(hung(hung(three(), 1, 1, 2), 0, 0), "0", "1 2", "1 2", "0"),
		// Deps that name one that the other one alone has are no hindrance, either way.
		good(hung(three(), 2, 1), "0 1", "0 2", "2", "1"), good(hung(hung(three(), 2, 0, 1), 1, 2), "0 1", "0 2", "2", "1"),
		// What both have hangs on none of own by Deps that name it as one behind it.
		good(hung(three(), 0, 1), "0 1", "0 2", "2", "1"), good(hung(hung(three(), 0, 1, 2), 2, 0), "0 1", "0 2", "2", "1"),
		// Such as may not be: in one alone; beside patches without changes; what both have, and that stays.
		good(odd(), "0", "", "", "0"), good(odd(), "0 2", "0", "", "2"), good(odd(), "0", "1", "1", "0"), good(odd(), "1", "2 1", "2", ""), good(odd(), "0 1", "0 2", "2", "1"), good(odd(), "0 2 1", "0 2 1", "", ""), good(odd(), "2 0 1", "2 0", "", "1"),
	} {
		c.hold(t)
	}
}

// P18.1: what those that stand behind are then: of files, and of lines.
func TestAsWhat(t *testing.T) {
	for _, c := range []pair{
		// Lines: ahead of the other one's, and behind them; more, fewer, and as many.
		theirs(list(put("a", 0, "", "x")), list(put("a", 4, "e", "y")), list(put("a", 5, "e", "y")), list(put("a", 0, "", "x"))), theirs(list(put("a", 0, "a b", "")), list(put("a", 5, "", "y")), list(put("a", 3, "", "y")), list(put("a", 0, "a b", ""))),
		theirs(list(put("a", 1, "b", "x")), list(put("a", 3, "d", "")), list(put("a", 3, "d", "")), list(put("a", 1, "b", "x"))), theirs(list(put("a", 4, "e", "x y z")), list(put("a", 0, "a b c", "v")), list(put("a", 0, "a b c", "v")), list(put("a", 2, "e", "x y z"))),
		theirs(list(put("a", 0, "", "x"), put("a", 6, "", "x x")), list(put("a", 2, "c", "")), list(put("a", 3, "c", "")), list(put("a", 0, "", "x"), put("a", 5, "", "x x"))),
		// All of own turn, from the last one on: each is passed as it is behind the ones ahead of it.
		theirs(list(put("a", 0, "", "x"), put("a", 0, "x a", ""), put("a", 1, "", "z")), list(put("a", 4, "e", "y")), list(put("a", 4, "e", "y")), list(put("a", 0, "", "x"), put("a", 0, "x a", ""), put("a", 1, "", "z"))),
		theirs(list(put("a", 0, "", "x y z"), move("a", "b"), put("b", 2, "z", "")), list(put("a", 3, "d", "v")), list(put("b", 5, "d", "v")), list(put("a", 0, "", "x y z"), move("a", "b"), put("b", 2, "z", ""))),
		// Files: added, taken away, moved, with lines of one that is moved.
		theirs(list(add("b")), list(add("c"), put("c", 0, "", "x")), list(add("c"), put("c", 0, "", "x")), list(add("b"))), theirs(list(setAll("a", "a b c d e", ""), rm("a")), list(add("b")), list(add("b")), list(setAll("a", "a b c d e", ""), rm("a"))),
		theirs(list(move("a", "b")), list(put("a", 2, "c", "x")), list(put("b", 2, "c", "x")), list(move("a", "b"))), theirs(list(setAll("a", "a b c d e", "x")), list(move("a", "b")), list(move("a", "b")), list(setAll("b", "a b c d e", "x"))),
		theirs(list(move("a", "b"), put("b", 0, "", "x")), list(put("a", 4, "e", ""), add("c")), list(put("b", 5, "e", ""), add("c")), list(move("a", "b"), put("b", 0, "", "x"))),
		theirs(list(move("a", "b"), move("b", "c")), list(put("a", 1, "", "x")), list(put("c", 1, "", "x")), list(move("a", "b"), move("b", "c"))), theirs(list(move("a", "b"), move("b", "a")), list(put("a", 1, "", "x")), list(put("a", 1, "", "x")), list(move("a", "b"), move("b", "a"))), theirs(list(move("a", "b"), add("a")), list(put("a", 0, "", "x")), list(put("b", 0, "", "x")), list(move("a", "b"), add("a"))),
		// What is passed is what it is then: theirs first goes ahead of own place, and then stands ahead of it, too.
		theirs(list(put("a", 3, "", "x")), list(put("a", 0, "", "v v"), put("a", 4, "", "w")), list(put("a", 0, "", "v v"), put("a", 4, "", "w")), list(put("a", 6, "", "x"))),
		theirs(list(put("a", 3, "", "x")), list(put("a", 0, "a b", ""), put("a", 2, "e", "y")), list(put("a", 0, "a b", ""), put("a", 3, "e", "y")), list(put("a", 1, "", "x"))),
	} {
		c.hold(t)
	}
	l := story(abcde(), list(put("a", 3, "", "x")), list(put("a", 0, "", "v v")), list(put("a", 4, "", "w")), list(put("a", 8, "e", "")), list(move("a", "b")))
	for _, c := range []pair{
		// So is each of theirs, and each of own, one behind the other.
		{some(l, "0 1"), some(l, "0 2 3 4"), 0, but(l, 4, put("a", 9, "e", ""))[2:5], but(l, 1, put("a", 6, "", "x"))[1:2]},
		{some(but(l, 5, put("a", 0, "a", "z")), "0 1 5"), some(l, "0"), 0, nil, some(but(l, 5, put("a", 0, "a", "z")), "1 5")},
		{some(l, "0 1 5"), some(but(l, 4, put("a", 0, "a", "z")), "0 4"), 0, some(but(l, 4, put("b", 0, "a", "z")), "4"), some(l, "1 5")},
		// Own, and theirs, are what Part puts behind: as they are behind what both have, that stands behind them.
		{some(but(l, 2, put("a", 0, "", "v v")), "0 1 2"), some(l, "0 2 3"), 0, some(l, "3"), some(but(l, 1, put("a", 6, "", "x")), "1")},
		{some(but(l, 4, put("a", 5, "e", "")), "0 1 4"), some(but(l, 4, put("a", 4, "e", "")), "0 4"), 0, nil, some(l, "1")},
		{some(but(l, 4, put("a", 4, "e", "")), "0 4"), some(but(l, 4, put("a", 5, "e", "")), "0 1 4"), 0, some(l, "1"), nil},
		{some(l, "0 5"), some(but(l, 3, put("a", 1, "b", "z")), "0 3 5"), 0, some(but(l, 3, put("b", 1, "b", "z")), "3"), nil},
	} {
		c.hold(t)
	}
}

// P18.1, P18.2: a patch that both have, and that hangs on one that only one of them has.
func TestHang(t *testing.T) {
	changes := story(list(add("a")), list(put("a", 0, "", "x")), list(add("b")), list(put("b", 0, "", "y")), list(add("c")))
	deps := hung(hung(three(), 1, 0), 2, 0)
	row := hung(hung(story(nil, nil, nil, nil), 1, 0), 2, 1)
	for _, c := range []pair{
		// In the first one, in the second one (both ways round), in both; by changes.
		bad(api.ErrHang, changes, "0 1", "1"), bad(api.ErrHang, changes, "0 1", "4 1"), bad(api.ErrHang, changes, "0 1 2 3", "1 3"), bad(api.ErrHang, changes, "0 1 3", "2 3 1"), bad(api.ErrHang, changes, "4 0 2 1", "4 2 1"), bad(api.ErrHang, changes, "2 0 1 3", "0 1 3"),
		// By Deps; on more; where it hangs on one that hangs, that is had by both, or not.
		bad(api.ErrHang, deps, "0 1", "1"), bad(api.ErrHang, deps, "0 2 1", "1 2"), bad(api.ErrHang, hung(three(), 2, 0, 1), "0 1 2", "0 2"), bad(api.ErrHang, hung(three(), 2, 0, 1), "0 1 2", "1 2"), bad(api.ErrHang, hung(three(), 2, 0, 1), "0 2", "1 2"),
		bad(api.ErrHang, row, "0 1 2", "2"), bad(api.ErrHang, row, "0 1 2", "1"), bad(api.ErrHang, row, "0 1 2", "1 2"), bad(api.ErrHang, row, "0 1 2 3", "3 2"),
		// Nothing is had beside what both have, by one, or by the other one: it hangs none the less.
		bad(api.ErrHang, deps, "0 1 2", "1 2"), bad(api.ErrHang, changes, "0 1 2 3", "0 1 3"),
	} {
		c.hold(t)
	}
}

// P18.1, P18.2: two that can't be had together: each kind of change beside each other one, and at the first of theirs, in between, at the last one.
func TestClash(t *testing.T) {
	one := abcde()
	for _, c := range [][2][]api.Prim{
		// Lines: the same, the same by the same, next to one another, within, at one place.
		{list(put("a", 0, "a", "x")), list(put("a", 0, "a", "y"))}, {list(put("a", 0, "a", "x")), list(put("a", 0, "a", "x"))}, {list(put("a", 1, "b", "")), list(put("a", 1, "b", ""))}, {list(put("a", 0, "a", "x")), list(put("a", 1, "b", "y"))}, {list(put("a", 1, "b c d", "x")), list(put("a", 2, "c", ""))},
		{list(put("a", 1, "b c", "x")), list(put("a", 2, "c d", "y"))}, {list(put("a", 5, "", "x")), list(put("a", 5, "", "y"))}, {list(put("a", 2, "", "x")), list(put("a", 2, "", "x"))}, {list(put("a", 2, "", "x")), list(put("a", 2, "c", ""))}, {list(put("a", 2, "", "x")), list(put("a", 1, "b", ""))}, {list(put("a", 2, "", "")), list(put("a", 2, "c", "y"))},
		// All lines, and any.
		{list(setAll("a", "a b c d e", "x")), list(put("a", 4, "e", ""))}, {list(setAll("a", "a b c d e", "x")), list(setAll("a", "a b c d e", "x"))}, {list(setAll("a", "a b c d e", "a b c d e")), list(put("a", 0, "", ""))},
		// Files: added by both, moved by both, moved to where one is added, or moved, taken away by both, or moved, or changed.
		{list(add("b")), list(add("b"))}, {list(move("a", "b")), list(move("a", "b"))}, {list(move("a", "b")), list(move("a", "c"))}, {list(move("a", "b")), list(add("b"))}, {list(add("c"), move("c", "b")), list(move("a", "b"))}, {list(move("a", "b"), add("a")), list(add("b"))},
		{list(put("a", 0, "a b c d e", ""), rm("a")), list(put("a", 0, "a b c d e", ""), rm("a"))}, {list(put("a", 0, "a b c d e", ""), rm("a")), list(put("a", 0, "", "x"))}, {list(setAll("a", "a b c d e", ""), rm("a")), list(move("a", "b"))}, {list(add("b"), rm("b")), list(add("b"))},
		// One of several of own, or of theirs.
		{list(add("b"), put("b", 0, "", "x"), put("a", 0, "a", "x")), list(put("a", 0, "", "y"))}, {list(put("a", 0, "a", "x"), add("b"), put("b", 0, "", "x")), list(add("c"), put("a", 0, "", "y"))}, {list(put("a", 4, "e", "x"), put("a", 2, "c", "x"), put("a", 0, "a", "x")), list(put("a", 4, "", "x"))},
		// What does not touch, but that what it is then does.
		{list(put("a", 0, "a b", ""), put("a", 0, "", "x")), list(put("a", 1, "", "y"))}, {list(move("a", "b"), put("b", 2, "c", "x")), list(put("a", 2, "c", "y"))},
	} {
		l := story(one, c[0], c[1], list(add("v")), list(add("w")), list(add("x")), list(add("y")))
		for _, own := range []string{"0 1", "0 3 1", "0 1 3", "0 3 1 4"} {
			for _, their := range []string{"0 2", "0 2 5", "0 5 2", "0 5 2 6"} {
				bad(api.ErrClash, l, own, their).hold(t)
			}
		}
		// Each fits alone.
		for _, alone := range []string{"0 1", "0 2"} {
			if _, e := toldApply(nil, some(l, alone)); e != 0 {
				t.Errorf("%s: error %d", short(some(l, alone)), e)
			}
		}
	}
	// With nothing in common, and with changes that may not be beside any others, of both.
	for _, p := range wrong() {
		l := story(list(p), list(add("z")), list(p), nil, list(add("y")))
		bad(api.ErrClash, l, "0", "1").hold(t)
		bad(api.ErrClash, l, "0", "2").hold(t)
		bad(api.ErrClash, l, "3 1", "4 3 0").hold(t)
		bad(api.ErrClash, l, "1", "4 2 3").hold(t)
		good(l, "3", "0", "0", "3").hold(t)
		good(l, "", "0 2", "0 2", "").hold(t)
	}
}

// P18.1, R2: of several errors the one that is named first.
func TestFirstError(t *testing.T) {
	// 1 hangs on 0; 2 and 3 clash; 4 is beside all.
	l := story(list(add("a")), list(put("a", 0, "", "x")), list(add("b")), list(add("b")), list(add("c")))
	for _, c := range []pair{
		// What hangs, and what clashes.
		bad(api.ErrHang, l, "0 1 2", "1 3"), bad(api.ErrHang, l, "2 0 1", "3 1"), bad(api.ErrHang, l, "0 2 1", "3 1 4"), bad(api.ErrHang, l, "2 4 0 1", "4 3 1"), bad(api.ErrHang, hung(l, 4, 3), "2 4", "3 4"), bad(api.ErrHang, hung(l, 4, 2, 3), "2 4", "3 4"),
		// They do clash, where nothing hangs.
		bad(api.ErrClash, l, "0 1 2", "0 1 3"), bad(api.ErrClash, l, "0 2", "3"), bad(api.ErrClash, hung(l, 4, 0), "2 4", "3 4"),
		// An Id that stands twice: in the first one, in the second one (both ways round), in both; next to one another, and apart; had by both, or by one.
		bad(api.ErrArg, l, "4 4", ""), bad(api.ErrArg, l, "4 4", "4"), bad(api.ErrArg, l, "4 0 4", "0"), bad(api.ErrArg, l, "4 0 2 1 4", "4 0"), bad(api.ErrArg, l, "4 4", "4 4"), bad(api.ErrArg, l, "4 4", "0 0"), bad(api.ErrArg, l, "4 4 4", "0 1 2"), bad(api.ErrArg, l, "0 4 4", "0 1 4"), bad(api.ErrArg, l, "0 0 4", "4 0"),
		// Beside what hangs, what clashes, and both.
		bad(api.ErrArg, l, "4 4 0 1", "1"), bad(api.ErrArg, l, "0 1 0", "1"), bad(api.ErrArg, l, "0 1", "1 1"), bad(api.ErrArg, l, "2 2", "3"), bad(api.ErrArg, l, "2 4 4", "3 4"), bad(api.ErrArg, l, "2", "3 4 4"), bad(api.ErrArg, l, "2 0 1 2", "3 1"), bad(api.ErrArg, l, "2 0 1 2", "3 1 3"), bad(api.ErrArg, l, "0 1 2", "1 3 1"),
	} {
		c.hold(t)
	}
	// Two of one Id that are others for the rest, and such of Ids that may not be.
	for _, i := range ids(3, 4, 0, 0, -1, math.MinInt, math.MaxInt, full+1) {
		l := three()
		l[0].Id, l[2].Id = i, i
		bad(api.ErrArg, l, "0 1 2", "").hold(t)
		bad(api.ErrArg, l, "0 2", "1").hold(t)
		bad(api.ErrArg, l, "0 1", "2 0").hold(t)
		good(l, "0 1", "0", "", "1").hold(t)
	}
	noughts := make([]api.Named, 2)
	bad(api.ErrArg, noughts, "0 1", "").hold(t)
	bad(api.ErrArg, noughts, "0", "0 1").hold(t)
	good(noughts, "0", "1", "", "").hold(t)
}

// P18.1: only the Id tells which patches both have: each has its own, whatever the other one's is.
func TestOneIdTwoPatches(t *testing.T) {
	l := story(abcde(), list(put("a", 0, "a", "x")), list(put("a", 4, "e", "y")))
	other := but(l, 0, list(add("a"), put("a", 0, "", "a a a a e"))...)
	other[0].Deps, other[0].Text = ids(4, 4), "other"
	for _, c := range []pair{
		{some(l, "0"), some(other, "0"), 0, nil, nil}, {some(l, "0 1"), some(other, "0"), 0, nil, some(l, "1")}, {some(l, "0 1"), some(other, "0 2"), 0, some(l, "2"), some(l, "1")},
		// Without changes; with such as may not be; it clashes with none.
		{some(l, "0 1"), some(but(l, 0), "0 2"), 0, some(l, "2"), some(l, "1")}, {some(l, "0 1"), some(but(l, 0, wrong()...), "0 2"), 0, some(l, "2"), some(l, "1")}, {some(l, "0 1 2"), some(but(l, 1, put("a", 0, "a", "y")), "0 1"), 0, nil, some(l, "2")}, {some(l, "0 1"), some(but(l, 1, put("a", 3, "d", "y")), "0 1"), 0, nil, nil},
		// It hangs in one of both, by changes, or by Deps.
		{some(l, "1 0"), some(other, "0 2"), 6, nil, nil}, {some(but(l, 0), "1 0"), some(other, "0 2"), 0, some(l, "2"), some(l, "1")}, {some(l, "0 1 2"), some(hung(l, 2, 1), "0 2"), 0, nil, some(l, "1")}, {some(hung(l, 2, 1), "0 1 2"), some(l, "0 2"), 6, nil, nil},
	} {
		c.hold(t)
	}
}

// P18.1, P18.2: all lists of at most three of some patches, whether they fit or not, some twice, beside all such lists.
func TestAllSmall(t *testing.T) {
	seen, others := map[api.Errno]int{}, 0
	for k, l := range [][]api.Named{
		story(list(add("a")), list(put("a", 0, "", "x")), list(put("a", 5, "x", "")), list(move("a", "b"))),
		story(list(put("a", 0, "", "x y")), list(put("a", 4, "y", "")), list(put("b", 9, "", "z"), add("c")), list(move("a", "b"))),
		story(nil, list(put("a", 3, "", "x")), list(put("a", 0, "z z", "")), list(put("a", 9, "x", "x y"), put("a", 5, "", "v"))),
		hung(hung(story(list(add("a")), list(add("b")), nil, list(add("A"))), 1, 0), 2, 1, 3),
		hung(hung(story(list(setAll("a", "x", "y")), list(add("c")), list(put("b", 1, "", "")), list(move("a", "d"))), 2, 3), 0, 1),
	} {
		var lists [][]api.Named
		for n := range 125 {
			// Each digit of n, to the base 5, is one of l, or none at the end.
			which, ends := []int{n % 5, n / 5 % 5, n / 25}, false
			var now []api.Named
			for _, d := range which {
				if ends = ends || d == 4; !ends {
					now = append(now, l[d])
				}
			}
			if !slices.ContainsFunc(lists, func(m []api.Named) bool { return showAll(m) == showAll(now) }) {
				lists = append(lists, now)
			}
		}
		if len(lists) != 85 {
			t.Fatalf("%d lists", len(lists))
		}
		for _, a := range lists {
			for _, b := range lists {
				e, other := check(t, a, b)
				if seen[e]++; other {
					others++
				}
			}
		}
		if k == 4 && (seen[0] < 5000 || seen[1] < 5000 || seen[6] < 2000 || seen[7] < 500 || others < 600 || len(seen) != 4) {
			t.Errorf("only %v, and %d are others", seen, others)
		}
	}
}

// tellAll hands over all stories of at most n of some changes that change a tree, each change a patch of who.
func tellAll(x api.Tree, few []api.Prim, n, who int, hand func([]api.Named)) {
	var tell func(now api.Tree, told []api.Named)
	tell = func(now api.Tree, told []api.Named) {
		if hand(told); len(told) == n {
			return
		}
		for _, p := range few {
			if next, e := prim.Apply(now, p); e == 0 {
				tell(next, append(slices.Clone(told), api.Named{Id: id(who, 1+len(told)), L: list(p)}))
			}
		}
	}
	tell(x, nil)
}

// joint are the changes of patches as one patch's.
func joint(l []api.Named) []api.Named {
	if len(l) < 2 {
		return l
	}
	p := l[0]
	p.L = slices.Clone(p.L)
	for _, q := range l[1:] {
		p.L = append(p.L, q.L...)
	}
	return []api.Named{p}
}

// P18.2: all stories of at most two of some changes on some trees, beside all such stories, each change a patch, or both one.
func TestSameOnAllSmallTrees(t *testing.T) {
	few := list(
		add("a"), rm("c"), move("a", "b"), move("b", "a"), put("a", 0, "", "x"), put("a", 2, "y", ""), put("a", 4, "", "y z"), put("b", 1, "x", "y"), put("b", 3, "x", ""), put("b", 2, "", ""), setAll("b", "x x", ""), setAll("a", "x y z", "x z"),
	)
	same, clash := 0, 0
	try := func(x api.Tree, a, b []api.Named) {
		if e, _ := check(t, a, b); e != 0 {
			if clash++; e != api.ErrClash {
				t.Fatalf("%s, %s: error %d", short(a), short(b), e)
			}
			return
		}
		if same++; !checkTree(t, x, a, b) {
			t.Fatalf("%s, %s, %s: makes nothing", short(x), short(a), short(b))
		}
	}
	for _, x := range []api.Tree{nil, {file("b", "x x")}, {file("a", "x y z"), file("c", "")}, {file("a", "x z y z x"), file("b", "x x z x x")}} {
		var stories [][]api.Named
		tellAll(x, few, 2, 1, func(l []api.Named) { stories = append(stories, l) })
		for k, a := range stories {
			for n, b := range stories {
				b = slices.Clone(b)
				for i := range b {
					b[i].Id.Who = 2
				}
				try(x, a, b)
				if (k+n)%3 == 0 {
					try(x, joint(a), b)
					try(x, joint(a), joint(b))
				}
			}
		}
	}
	if same < 1500 || clash < 2000 {
		t.Errorf("only %d are the same, and %d clash", same, clash)
	}
}

// fit is a change that fits a tree, as next chooses it: a number from 0 on, below the one that it is given; names are those that files may have then.
func fit(x api.Tree, names []string, next func(int) int) api.Prim {
	free := slices.DeleteFunc(slices.Clone(names), func(s string) bool {
		return slices.ContainsFunc(x, func(f api.File) bool { return f.Name == s })
	})
	what := next(24)
	if len(x) == 0 || what == 0 && len(free) > 0 {
		return add(free[next(len(free))])
	}
	f := x[next(len(x))]
	if what <= 2 && len(free) > 0 {
		return move(f.Name, free[next(len(free))])
	}
	if what == 3 && len(f.Lines) == 0 {
		return rm(f.Name)
	}
	now := numbered(50)[next(50):][:next(6)%3]
	if what == 4 && len(f.Lines) < 20 {
		return with(setAll(f.Name, "", ""), api.Hunk{Old: slices.Clone(f.Lines), New: append(slices.Clone(f.Lines), now...)})
	}
	from := next(len(f.Lines) + 1)
	old := f.Lines[from:][:next(min(3, len(f.Lines)-from+1))]
	return with(put(f.Name, 0, "", ""), api.Hunk{At: from, Old: slices.Clone(old), New: slices.Clone(now)})
}

// told are n patches of who behind some, that fit what those make of nothing; some hang by Deps on some ahead of them. The first one of all makes files of some lines.
func told(l []api.Named, size, n, who int, next func(int) int) []api.Named {
	l = slices.Clone(l)
	if len(l) == 0 {
		l = append(l, api.Named{Id: id(7, 1), L: list(add("a"), add("c"), add("e"), put("a", 0, "", ""), put("c", 0, "", ""), put("e", 0, "", "x"), put("e", 0, "x", ""))})
		l[0].L[3].H.New, l[0].L[4].H.New = numbered(size), numbered(size*3/4)
	}
	x, _ := toldApply(nil, l)
	for k := range n {
		p := api.Named{Id: id(who, k+2), Text: fmt.Sprint("t", next(9))}
		for range next(3) * next(2) {
			p.Deps = append(p.Deps, l[next(len(l))].Id)
		}
		for range 1 + next(3) {
			q := fit(x, []string{"b", "d", "f", fmt.Sprint("g", who)}, next)
			y, e := prim.Apply(x, q)
			if e != 0 {
				break
			}
			p.L, x = append(p.L, q), y
		}
		l = append(l, p)
	}
	return l
}

// turned is a list that is cut in two, and joined, as next chooses it.
func turned(l []api.Named, next func(int) int) []api.Named {
	var which []api.Id
	for _, p := range l {
		if next(3) == 0 {
			which = append(which, p.Id)
		}
	}
	ahead, behind := bubble.Part(l, which)
	if next(2) == 0 {
		ahead, behind = bubble.Pick(l, which)
	}
	return slices.Concat(ahead, behind)
}

// checkForked holds all of two that come from one. It tells the error, whether one of theirs is another one then, and how many lines there are.
func checkForked(t *testing.T, a, b []api.Named) (api.Errno, bool, int) {
	t.Helper()
	e, other := check(t, a, b)
	if e != 0 {
		return e, other, 0
	}
	if !checkTree(t, nil, a, b) {
		t.Fatalf("%s, %s: makes nothing", short(a), short(b))
	}
	return e, other, checkBirths(t, a, b)
}

// P18.1, P18.2, P4: longer stories that come from one, turned in any way that they may be; by a fixed seed.
func TestForked(t *testing.T) {
	chance := rand.New(rand.NewPCG(18, 1))
	seen, others, lines := map[api.Errno]int{}, 0, 0
	for range 1500 {
		both := told(nil, 10+chance.IntN(30), chance.IntN(4), 6, chance.IntN)
		a, b := told(both, 0, 1+chance.IntN(4), 1, chance.IntN), told(both, 0, 1+chance.IntN(3), 2, chance.IntN)
		for range 2 {
			e, other, n := checkForked(t, a, b)
			seen[e]++
			if lines += n; other {
				others++
			}
			a, b = turned(a, chance.IntN), turned(b, chance.IntN)
		}
	}
	if seen[0] < 800 || seen[7] < 1500 || len(seen) != 2 || others < 350 || lines < 40000 {
		t.Errorf("only %v, %d are others, %d lines", seen, others, lines)
	}
}

// P18.1, P18.2: two of one story each of which some patches are taken away from, or picked.
func TestPicked(t *testing.T) {
	chance := rand.New(rand.NewPCG(18, 2))
	seen, others := map[api.Errno]int{}, 0
	cut := func(l []api.Named) []api.Named {
		var which []api.Id
		for _, p := range l {
			if chance.IntN(4) == 0 {
				which = append(which, p.Id)
			}
		}
		ahead, _ := bubble.Part(l, which)
		if chance.IntN(2) == 0 {
			ahead, _ = bubble.Pick(l, which)
		}
		return ahead
	}
	for range 1500 {
		l := told(nil, 10+chance.IntN(30), 3+chance.IntN(7), 3, chance.IntN)
		// Each list has all on which its patches hang, and both come from one list: nothing hangs, and nothing clashes.
		a, b := cut(l), cut(turned(l, chance.IntN))
		e, other := check(t, a, b)
		if seen[e]++; e == 0 && other {
			others++
		}
		if e == 0 && len(a) > 0 && len(b) > 0 {
			checkForked(t, a, b)
		}
	}
	if seen[0] != 1500 || others < 80 {
		t.Errorf("%v, only %d are others", seen, others)
	}
}

// P18.2, P4: several that come from one, merged in any order, make the same.
func TestSeveral(t *testing.T) {
	chance := rand.New(rand.NewPCG(18, 3))
	all := 0
	for range 600 {
		both := told(nil, 40+chance.IntN(60), chance.IntN(3), 6, chance.IntN)
		var l [3][]api.Named
		for k := range l {
			l[k] = told(both, 0, 1+chance.IntN(2), k, chance.IntN)
		}
		seen, first := map[api.Errno]int{}, ""
		for _, order := range [][3]int{{0, 1, 2}, {0, 2, 1}, {1, 0, 2}, {1, 2, 0}, {2, 0, 1}, {2, 1, 0}} {
			two, e := Merge(l[order[0]], l[order[1]])
			if e == 0 {
				two, e = Merge(two, l[order[2]])
			}
			if seen[e]++; e != 0 {
				continue
			}
			made, f := toldApply(nil, two)
			origins, _ := blame.Origins(two)
			now := showTree(made) + fmt.Sprint(origins)
			if first == "" {
				first = now
			}
			if f != 0 || now != first {
				t.Fatalf("%s, %v: %s, error %d, not %s", short(l), order, short(now), f, short(first))
			}
		}
		if len(seen) != 1 {
			t.Fatalf("%s: %v", short(l), seen)
		}
		if seen[0] == 6 {
			all++
		}
	}
	if all < 100 {
		t.Errorf("only %d are merged", all)
	}
}

// P18.1, P18.2, R1: as many patches as there may be, of many changes; more than there may be.
func TestMany(t *testing.T) {
	// Both have 20 patches; own, and theirs, are 30 more, by turns at two ends of a file.
	var l, theirs, own []api.Named
	for k := range 80 {
		p := api.Named{Id: id(k%8, k+1), Deps: counted(60, 7, 100), Text: of(80, "t"), L: list(add(fmt.Sprint("f", k)))}
		for n := range 10 {
			switch {
			case k < 20:
			case k%2 == 0:
				p.L = append(p.L, put("f0", 0, "", "x y"))
			default:
				p.L = append(p.L, put("f0", 1000+10*k+n, "z", ""))
			}
		}
		l = append(l, p)
		if k%2 == 0 || k < 20 {
			own = append(own, p)
		}
		if k%2 == 1 || k < 20 {
			theirs = append(theirs, p)
		}
	}
	e, other := check(t, own, theirs)
	got, _ := Merge(own, theirs)
	if e != 0 || !other || len(own) != 50 || len(theirs) != 50 || len(got) != 80 || got[50].L[1].H.At != 1000+210+600 || got[79].L[10].H.At != 1000+799+600 {
		t.Errorf("error %d, %v, %s", e, other, short(got))
	}
	if e, _ := check(t, l, theirs); e != 0 {
		t.Errorf("error %d", e)
	}
	last := append(slices.Clone(theirs), api.Named{Id: id(9, 9), L: list(put("f0", 0, "", "v"))})
	if e, _ := check(t, own, last); e != api.ErrClash {
		t.Errorf("error %d", e)
	}
	if e, _ := check(t, own, append(theirs, theirs[49])); e != api.ErrArg {
		t.Errorf("error %d", e)
	}
	if e, _ := check(t, own, hung(append(theirs, own[20]), 50, 10, 20)); e != api.ErrHang {
		t.Errorf("error %d", e)
	}
	// Of two patches of 200 changes each.
	two := story(slices.Repeat(list(put("a", 0, "", "x")), 200), slices.Repeat(list(put("b", 3, "", "x"), put("a", 900, "y", "")), 100))
	two[0].L[0] = add("c")
	if e, other := check(t, two[:1], two[1:]); e != 0 || !other {
		t.Errorf("error %d, %v", e, other)
	}
	// Very many: of ids that no list has twice, that one has twice at its ends, and such as have much.
	var long []api.Named
	for _, i := range counted(1<<13, 3, -5) {
		long = append(long, api.Named{Id: i})
	}
	for _, k := range []int{0, 1, 1 << 12, 1<<13 - 1, 1 << 13} {
		a, e := Merge(long[:k], long)
		b, f := Merge(long, long[k:])
		if e != 0 || f != 0 || !slices.Equal(bubble.Ids(a), bubble.Ids(long)) || !slices.Equal(bubble.Ids(b), bubble.Ids(long)) || len(Missing(long[:k], long)) != 1<<13-k {
			t.Errorf("%d: errors %d, %d", k, e, f)
		}
	}
	long[1<<13-1].Id = long[0].Id
	for _, z := range [][][]api.Named{{long, nil}, {nil, long}, {long[:9], long}, {make([]api.Named, 1<<20), nil}, {nil, make([]api.Named, 1<<20)}} {
		if got, e := Merge(z[0], z[1]); e != api.ErrArg || got != nil {
			t.Errorf("error %d, %s", e, short(got))
		}
	}
	huge := api.Named{Deps: make([]api.Id, 1<<20), Text: of(1<<20, "x"), L: make([]api.Prim, 1<<17)}
	for _, b := range [][]api.Named{nil, {huge}, {{Id: id(1, 1)}}} {
		if got, e := Merge([]api.Named{huge}, b); e != 0 || len(got[0].L) != 1<<17 || len(got[0].Deps) != 1<<20 {
			t.Errorf("error %d", e)
		}
	}
	if got, e := Merge([]api.Named{{Id: id(1, 1)}}, []api.Named{huge}); e != 0 || len(got[1].L) != 1<<17 || len(got[1].Deps) != 1<<20 {
		t.Errorf("error %d", e)
	}
	if got, e := Merge([]api.Named{{Id: id(1, 1), L: list(add("a"))}}, []api.Named{huge}); e != api.ErrClash || got != nil {
		t.Errorf("error %d", e)
	}
}

// chosen is a patch of whatever next chooses, that may be or not.
func chosen(next func(int) int) api.Named {
	some := []int{0, 1, 2, 7, 8, -1, full, full + 1, math.MaxInt, math.MinInt}
	number := func() int { return some[next(next(len(some))+1)] }
	p := api.Named{Id: id(number(), number()), Text: []string{"", "t", of(80, "t"), of(81, "t"), "t\n", "\n"}[next(next(6)+1)]}
	for range next(4) * next(2) {
		p.Deps = append(p.Deps, id(number(), number()))
	}
	for range next(3) {
		if next(20) == 0 {
			p.L = append(p.L, wrong()[next(len(wrong()))])
		} else {
			p.L = append(p.L, fair()[next(len(fair()))])
		}
	}
	return p
}

// chosenTwo are two lists of some patches, of which some stand in both, and some twice.
func chosenTwo(next func(int) int) (a, b []api.Named) {
	for range next(7) {
		p := chosen(next)
		which := next(20)
		if which%3 != 0 {
			a = append(a, p)
		}
		if which%3 != 1 {
			b = append(b, p)
		}
		if which == 19 {
			a = append(a, p)
		}
	}
	return a, b
}

// R1: whatever is given, nothing panics.
func TestWhateverIsGiven(t *testing.T) {
	chance := rand.New(rand.NewPCG(18, 4))
	seen, others := map[api.Errno]int{}, 0
	for range 20000 {
		a, b := chosenTwo(chance.IntN)
		e, other := check(t, a, b)
		if seen[e]++; other {
			others++
		}
	}
	if seen[0] < 6000 || seen[1] < 2500 || seen[6] < 1000 || seen[7] < 1000 || len(seen) != 4 || others < 40 {
		t.Errorf("only %v, and %d are others", seen, others)
	}
}

// markedLines is l with room behind it, in which a write is seen; so are marked patches, with their Deps, changes and lines.
func markedLines(l []string) []string { return append(slices.Clone(l), "mark", "mark")[:len(l)] }

func marked(l []api.Named) []api.Named {
	out := append(slices.Clone(l), api.Named{Text: "mark"}, api.Named{Text: "mark"})[:len(l)]
	for k, p := range l {
		out[k].Deps = append(slices.Clone(p.Deps), id(99, 99), id(99, 99))[:len(p.Deps)]
		out[k].L = append(slices.Clone(p.L), add("mark"), add("mark"))[:len(p.L)]
		for n, q := range p.L {
			out[k].L[n].H.Old, out[k].L[n].H.New = markedLines(q.H.Old), markedLines(q.H.New)
		}
	}
	return out
}

// wide shows all of marked patches, with the room behind whatever they have.
func wide(l []api.Named) string {
	l = copiedRoom(l)
	for k, p := range l {
		l[k].Deps, l[k].L = room(p.Deps), copiedRoom(p.L)
		for n, q := range l[k].L[:len(p.L)] {
			l[k].L[n].H.Old, l[k].L[n].H.New = room(q.H.Old), room(q.H.New)
		}
	}
	return showAll(l)
}

// room is a list with what stands in the two places behind it, if it has such; copiedRoom the same in memory of its own.
func room[T any](l []T) []T { return l[:min(cap(l), len(l)+2)] }

func copiedRoom[T any](l []T) []T { return slices.Clone(room(l)) }

// spoilAll writes over a list, and over the room behind it; spoil over all that a patch has, spoilPatches over patches.
func spoilAll[T any](l []T, with T) {
	l = l[:cap(l)]
	for k := range l {
		l[k] = with
	}
}

func spoil(p api.Named) {
	for _, q := range p.L {
		spoilAll(q.H.Old, "spoilt")
		spoilAll(q.H.New, "spoilt")
	}
	spoilAll(p.L, api.Prim{Kind: 9, Name: "spoilt"})
	spoilAll(p.Deps, id(-7, -7))
}

func spoilPatches(l []api.Named) {
	for _, p := range l {
		spoil(p)
	}
	spoilAll(l, api.Named{Text: "spoilt"})
}

// checkApart holds, of patches that are answered, that none of their Deps, changes and lines share memory.
func checkApart(t *testing.T, what string, l []api.Named) {
	t.Helper()
	var lines, was [][]string
	for _, p := range l {
		for _, q := range p.L {
			lines = append(lines, q.H.Old, q.H.New)
			was = append(was, slices.Clone(q.H.Old), slices.Clone(q.H.New))
		}
	}
	for k, some := range lines {
		spoilAll(some, "spoilt")
		for n := k + 1; n < len(lines); n++ {
			if !slices.Equal(lines[n], was[n]) {
				t.Fatalf("%s: lists of lines %d and %d of what is answered are shared", what, k, n)
			}
		}
	}
	for k, p := range l {
		left := showAll(l[k+1:])
		spoil(p)
		if showAll(l[k+1:]) != left {
			t.Fatalf("%s: the Deps, or the changes, of patch %d of what is answered are shared", what, k)
		}
	}
}

// checkOwn holds R3: what is handed in stays, its room too, and what is answered shares nothing with that, nor within itself, nor with what is answered once more. It tells whether there was an answer.
func checkOwn(t *testing.T, a, b []api.Named) bool {
	t.Helper()
	a, b = marked(a), marked(b)
	wasA, wasB, what := wide(a), wide(b), short(a)+", "+short(b)
	stays := func(how string) {
		t.Helper()
		if wide(a) != wasA || wide(b) != wasB {
			t.Fatalf("%s: what was handed in is now %s, %s: %s", what, short(a), short(b), how)
		}
	}
	got, e := Merge(a, b)
	again, _ := Merge(a, b)
	of, ofAgain := Missing(a, b), Missing(a, b)
	stays("changed")
	want, wantOf := showAll(got), slices.Clone(of)
	checkApart(t, what, again)
	spoilPatches(again)
	spoilAll(ofAgain, id(-7, -7))
	stays("shared with what is answered")
	spoilPatches(a)
	spoilPatches(b)
	if showAll(got) != want || !slices.Equal(of, wantOf) {
		t.Fatalf("%s: what was answered is then %s, %s", what, short(got), short(of))
	}
	return e == 0
}

// R3: patches of both, of one, and of none, with changes of each kind, such as may not be, such without changes and without Deps; with and without errors.
func TestNothingIsShared(t *testing.T) {
	few := [][]api.Prim{
		nil, list(), list(add("b")), list(put("a", 0, "", "x y"), put("a", 5, "x", "")), list(put("a", 20, "x y", "z v")), list(move("a", "c"), setAll("d", "x", "y z")), list(put("a", 9, "", "")),
		list(with(put("a", 30, "", ""), api.Hunk{At: 30, Old: []string{}, New: []string{}})), list(api.Prim{Kind: 5, Name: "a", H: api.Hunk{Old: words("x y"), New: words("z")}}), list(with(setAll("b", "", ""), api.Hunk{Old: []string{}, New: []string{}})),
	}
	good, all := 0, 0
	own := func(a, b []api.Named) {
		t.Helper()
		if all++; checkOwn(t, a, b) {
			good++
		}
	}
	own(nil, nil)
	for _, p := range few {
		for _, q := range few {
			for _, r := range few {
				l := story(p, q, r, list(put("a", 40, "", "x y")))
				own(some(l, "0 1"), some(l, "0 2"))
				own(some(l, "0"), some(l, "1 2"))
				own(some(l, "0 1 2"), some(l, "0 3"))
				own(some(l, "3 0"), some(l, "0 1"))
			}
			l := story(p, q)
			own(l, l)
			own(l, nil)
			own(nil, l)
			own(l, l[:1])
			own(l[1:], l)
			own(l[:1], some(l, "0 1 1"))
		}
	}
	if good < 1500 || all-good < 800 {
		t.Errorf("only %d of %d are good", good, all)
	}
}

// R3: one list of lines that all changes have, and pieces of it; one list of changes that all patches have, and pieces of it; one list of Deps, and pieces of it; pieces of one list of patches, in both.
func TestOneListManyTimes(t *testing.T) {
	lines := markedLines(words("x y x y"))
	changes := list(
		with(put("a", 0, "", ""), api.Hunk{At: 0, Old: lines[:2], New: lines}), with(put("a", 0, "", ""), api.Hunk{At: 40, Old: lines, New: lines[:2]}), with(put("a", 0, "", ""), api.Hunk{At: 60, Old: lines[:0], New: lines[:0]}),
		with(put("b", 0, "", ""), api.Hunk{At: 2, New: lines[1:3]}), with(put("b", 0, "", ""), api.Hunk{At: 30, Old: lines[1:3]}), with(put("c", 0, "", ""), api.Hunk{Old: lines[4:], New: lines[4:]}),
	)
	deps := ids(0, 1, 0, 2, 1, 1, 9, 9, 5, 1, 5, 3)
	l := []api.Named{
		{Id: id(5, 1), Deps: deps[:3], L: changes[:2]}, {Id: id(5, 2), Deps: deps[:3], L: changes[3:]}, {Id: id(5, 3), Deps: deps[1:2], L: changes[2:4]}, {Id: id(5, 4), Deps: deps[:0], L: changes[4:]},
		{Id: id(5, 5), Deps: deps[3:], L: changes[:0]}, {Id: id(9, 9), Deps: deps[:4], L: changes[1:2]},
	}
	seen, before := map[api.Errno]int{}, wide(l)
	try := func(a, b []api.Named) {
		t.Helper()
		e, _ := check(t, a, b)
		seen[e]++
		got, _ := Merge(a, b)
		checkApart(t, short(a), got)
		if wide(l) != before || !slices.Equal(lines[:6], words("x y x y mark mark")) {
			t.Fatalf("%s: is now %s, %q", before, short(l), lines[:6])
		}
	}
	for i := range l {
		for j := i; j <= len(l); j++ {
			for k := range l {
				for n := k; n <= len(l); n++ {
					try(l[i:j], l[k:n])
				}
				try([]api.Named{l[i], l[k]}, l[i:j])
			}
		}
	}
	if seen[0] < 100 || seen[1] < 10 || seen[6] < 20 || seen[7] < 50 {
		t.Errorf("only %v", seen)
	}
}

// R5: what is asked does not hang on what was asked ahead of it.
func TestAskedOnceMore(t *testing.T) {
	l := []api.Named{{Id: id(0, 1), L: list(add("b"))}, {Id: id(0, 2), L: list(put("a", 0, "", "x"))}, {Id: id(1, 1), L: list(put("a", 5, "y", ""))}}
	asked := func() string {
		return fmt.Sprint(Merge(l[:2], some(l, "0 2"))) + fmt.Sprint(Merge(l[2:], l[:2])) + fmt.Sprint(Merge(l[:2], l[1:2])) + fmt.Sprint(Merge(l[:1], some(l, "0 0"))) + fmt.Sprint(Merge(nil, l[1:])) + fmt.Sprint(Missing(l[1:], l))
	}
	first := asked()
	want := "[{{0 1} []  [{0 b  {0 [] []}}]} {{0 2} []  [{3 a  {0 [] [x]}}]} {{1 1} []  [{3 a  {6 [y] []}}]}] 0" +
		"[{{1 1} []  [{3 a  {5 [y] []}}]} {{0 1} []  [{0 b  {0 [] []}}]} {{0 2} []  [{3 a  {0 [] [x]}}]}] 0" +
		"[{{0 1} []  [{0 b  {0 [] []}}]} {{0 2} []  [{3 a  {0 [] [x]}}]}] 0[] 1[{{0 2} []  [{3 a  {0 [] [x]}}]} {{1 1} []  [{3 a  {5 [y] []}}]}] 0[{0 1}]"
	if first != want {
		t.Errorf("%s, not %s", first, want)
	}
	for _, p := range wrong() {
		odd := append(story(list(p), list(add("b"))), l...)
		for k := range odd {
			for n := range odd {
				Merge(odd[k:], odd[:n])
				Missing(odd[:k], odd[n:])
			}
		}
	}
	if again := asked(); again != first {
		t.Errorf("%s, and then %s", first, again)
	}
}

func FuzzMerge(f *testing.F) {
	f.Add([]byte{}, []byte{}, []byte{}, byte(0))
	f.Add([]byte{5, 3, 1, 2, 3, 4, 5, 6, 1, 0, 2}, []byte{5, 1, 9, 0, 20, 1}, []byte{3, 1, 4, 1, 5, 9, 2, 6}, byte(40))
	f.Add([]byte{0, 4, 9, 0, 1, 1, 5, 0, 1, 1, 30, 1, 2, 1, 1}, []byte{9, 0, 7, 1, 3, 0, 3, 0, 4, 1, 1, 1}, []byte{2, 7, 1, 8}, byte(20))
	f.Add([]byte{200, 17, 3, 255, 1, 90, 7, 8, 4, 3, 5, 6, 7, 8, 9}, []byte{200, 11, 0, 3, 2, 1, 100, 4, 4}, []byte{1, 6, 1, 8, 0}, byte(5))
	f.Fuzz(func(t *testing.T, made, own, their []byte, size byte) {
		next, other := from(own), from(their)
		both := told(nil, int(size)%100, min(4, len(made)/3), 6, from(made))
		a, b := told(both, 0, min(4, len(own)/3), 1, next), told(both, 0, min(4, len(their)/3), 2, other)
		for range 3 {
			checkForked(t, a, b)
			checkOwn(t, a, b)
			a, b = turned(a, next), turned(b, other)
		}
		for range 3 {
			a, b = append(a, chosen(next)), append(b, chosen(other))
			a[next(len(a))], b[other(len(b))] = chosen(other), chosen(next)
			check(t, a, b)
			checkOwn(t, a, b)
			a, b = chosenTwo(other)
			check(t, a, b)
			checkOwn(t, a, b)
		}
	})
}

// from chooses by bytes, one by one; when there are none any more, it chooses 0.
func from(b []byte) func(int) int {
	return func(n int) int {
		if len(b) == 0 || n == 0 {
			return 0
		}
		k := int(b[0]) % n
		b = b[1:]
		return k
	}
}
