package blame

import (
	"fmt"
	"math"
	"math/rand/v2"
	"slices"
	"strconv"
	"strings"
	"testing"

	"quiltmaker/api"
	"quiltmaker/bubble"
	"quiltmaker/patch"
	"quiltmaker/prim"
	"quiltmaker/trade"
)

const full = 1 << 20

// words is a list of the words of s.
func words(s string) []string { return strings.Fields(s) }

// of is n bytes of s, one behind the other; many a list of n lines s; numbered are n lines, no two of which are the same.
func of(n int, s string) string { return strings.Repeat(s, n) }

func many(n int, s string) []string { return slices.Repeat([]string{s}, n) }

func numbered(n int) []string {
	var l []string
	for k := range n {
		l = append(l, fmt.Sprint("l", k))
	}
	return l
}

// id is an id; counted are n ids of who, that rise, the first one with the No from.
func id(who, no int) api.Id { return api.Id{Who: who, No: no} }

func counted(n, who, from int) []api.Id {
	var out []api.Id
	for k := range n {
		out = append(out, id(who, from+k))
	}
	return out
}

// add, rm, move, put and set are changes of each kind, as they may be.
func add(name string) api.Prim { return api.Prim{Kind: 0, Name: name} }

func rm(name string) api.Prim { return api.Prim{Kind: 1, Name: name} }

func move(name, to string) api.Prim { return api.Prim{Kind: 2, Name: name, To: to} }

func put(name string, at int, old, now string) api.Prim {
	return api.Prim{Kind: 3, Name: name, H: api.Hunk{At: at, Old: words(old), New: words(now)}}
}

func set(name, old, now string) api.Prim {
	return api.Prim{Kind: 4, Name: name, H: api.Hunk{Old: words(old), New: words(now)}}
}

// with is p with another H.
func with(p api.Prim, h api.Hunk) api.Prim {
	p.H = h
	return p
}

// list are changes.
func list(l ...api.Prim) []api.Prim { return l }

// story are patches, each of some changes; each has an Id, Deps and a Text of its own.
func story(l ...[]api.Prim) []api.Named {
	var out []api.Named
	for k, changes := range l {
		out = append(out, api.Named{Id: id(k%8, 10+k/8), Deps: counted(k%4, k%8, 1), Text: fmt.Sprint("t", k), L: changes})
	}
	return out
}

// sameIds are those patches, all with one Id.
func sameIds(l []api.Named) []api.Named {
	for k := range l {
		l[k].Id = id(2, 3)
	}
	return l
}

// show is all of patches; showOrigins all of what is told of them; lists without elements are shown the same.
func show(l []api.Named) string {
	s := fmt.Sprint(len(l), "\n")
	for _, p := range l {
		s += fmt.Sprintf("%d %d %v %q %d\n", p.Id.Who, p.Id.No, append([]api.Id{}, p.Deps...), p.Text, len(p.L))
		for _, q := range p.L {
			s += fmt.Sprintf("%d %q %q %d %q %q\n", q.Kind, q.Name, q.To, q.H.At, append([]string{}, q.H.Old...), append([]string{}, q.H.New...))
		}
	}
	return s
}

func showOrigins(l []api.Origin) string {
	s := fmt.Sprint(len(l), "\n")
	for _, o := range l {
		s += fmt.Sprintf("%q %v\n", o.Name, append([]api.Birth{}, o.L...))
	}
	return s
}

// short is what is told of something in a test's log.
func short(x any) string {
	s := fmt.Sprint(x)
	if len(s) > 400 {
		s = s[:200] + " .. " + s[len(s)-200:]
	}
	return s
}

// wrong are changes that may not be: each for one thing alone, or for more.
func wrong() []api.Prim {
	return list(
		api.Prim{}, api.Prim{Kind: -1, Name: "a"}, api.Prim{Kind: 5, Name: "a"}, api.Prim{Kind: math.MinInt, Name: "a"}, api.Prim{Kind: math.MaxInt, Name: "a", To: "b"},
		add("A"), add(of(17, "a")), with(add("a"), api.Hunk{New: words("x")}), rm("a b"), with(rm("a"), api.Hunk{At: 1}),
		move("a", ""), move("a", "a"), move("", "b"), with(move("a", "b"), api.Hunk{Old: words("x")}),
		put("", 0, "", "x"), put("a", -1, "", "x"), put("a", full+1, "", "x"), put("a", math.MaxInt, "x", ""), put("a", math.MinInt, "", ""),
		with(put("a", 0, "", ""), api.Hunk{Old: []string{"\n"}}), with(put("a", 0, "", ""), api.Hunk{New: []string{of(81, "x")}}), with(put("a", 0, "", ""), api.Hunk{New: many(201, "x")}),
		set("", "", "x"), with(set("a", "", ""), api.Hunk{At: 1, New: words("x")}), with(set("a", "", ""), api.Hunk{Old: many(201, "x")}),
	)
}

// fair are changes of each kind that may be; which name a, b and c.
func fair() []api.Prim {
	return list(
		add("a"), add("b"), rm("a"), rm("b"), move("a", "b"), move("b", "c"), put("a", 0, "", "x"), put("a", 1, "x", ""), put("b", 0, "", "x y"), put("b", 1, "y", "z"),
		set("a", "", "x"), set("b", "x y", ""),
	)
}

// toldTree is what patches make of nothing, change by change.
func toldTree(l []api.Named) (t api.Tree, e api.Errno) {
	for _, p := range l {
		for _, q := range p.L {
			if t, e = prim.Apply(t, q); e != 0 {
				return nil, e
			}
		}
	}
	return t, 0
}

// toldBirth is where a line comes from, of a file that patches make: it goes back from the last change, and knows at each one which name the file had ahead of it, and as which one the line stood there, till it comes to the one that puts it.
func toldBirth(l []api.Named, name string, line int) (api.Birth, bool) {
	for _, p := range slices.Backward(l) {
		for n, q := range slices.Backward(p.L) {
			k := line - q.H.At
			switch {
			case q.Kind == api.Move && q.To == name:
				name = q.Name
			case q.Name != name || q.Kind == api.Move:
			case q.Kind == api.Add || q.Kind == api.Rm:
				return api.Birth{}, false
			case 0 <= k && k < len(q.H.New):
				return api.Birth{Id: p.Id, Prim: n, K: k}, true
			case k >= 0:
				line += len(q.H.Old) - len(q.H.New)
			}
		}
	}
	return api.Birth{}, false
}

// puts tells whether one of patches is of a birth's Id, and puts a line as that tells.
func puts(l []api.Named, b api.Birth, line string) bool {
	return slices.ContainsFunc(l, func(p api.Named) bool {
		return p.Id == b.Id && b.Prim < len(p.L) && b.K < len(p.L[b.Prim].H.New) && p.L[b.Prim].H.New[b.K] == line
	})
}

// checkFile holds all that is told of one file against its lines.
func checkFile(t *testing.T, l []api.Named, f api.File, got []api.Origin) {
	t.Helper()
	for k, line := range f.Lines {
		want, is := toldBirth(l, f.Name, k)
		b, ok := Of(got, f.Name, k)
		if !is || !ok || b != want || !puts(l, b, line) {
			t.Fatalf("%s: line %d of %s, %q, is of %v, not %v", short(l), k, f.Name, line, b, want)
		}
	}
	for _, k := range []int{-1, len(f.Lines), len(f.Lines) + 1, math.MaxInt, math.MinInt} {
		if b, ok := Of(got, f.Name, k); ok || b != (api.Birth{}) {
			t.Fatalf("%s: there is no line %d of %s, but it is of %v", short(l), k, f.Name, b)
		}
	}
}

// check holds P17.1 as it is told, and P17.3 of the births' number, and that none comes twice. It tells what is told, and whether patches make anything of nothing.
func check(t *testing.T, l []api.Named) ([]api.Origin, bool) {
	t.Helper()
	got, e := Origins(l)
	made, want := toldTree(l)
	if e != want {
		t.Errorf("%s: error %d, not %d", short(l), e, want)
	}
	if e != 0 {
		if len(got) != 0 {
			t.Errorf("%s: error %d, and %s", short(l), e, short(got))
		}
		return nil, false
	}
	if len(got) != len(made) {
		t.Fatalf("%s: of %s, %s", short(l), short(made), short(got))
	}
	seen, twice := map[api.Birth]int{}, map[api.Id]int{}
	for _, p := range l {
		twice[p.Id]++
	}
	for k, f := range made {
		if got[k].Name != f.Name || len(got[k].L) != len(f.Lines) || k > 0 && got[k-1].Name >= f.Name {
			t.Fatalf("%s: of %s, %s", short(l), short(made), short(got))
		}
		checkFile(t, l, f, got)
		for _, b := range got[k].L {
			if seen[b]++; seen[b] > twice[b.Id] {
				t.Fatalf("%s: %v is a birth of more than one line: %s", short(l), b, short(got))
			}
		}
	}
	return got, true
}

// checkPassed holds, of P17.3, that no birth changes where two patches pass one another, each two that stand so. It tells how many do.
func checkPassed(t *testing.T, l []api.Named, was []api.Origin) int {
	t.Helper()
	n := 0
	for k := range len(l) - 1 {
		first, second, ok := trade.Pass(l[k], l[k+1])
		if !ok {
			continue
		}
		n++
		l := slices.Concat(l[:k], []api.Named{first, second}, l[k+2:])
		if got, _ := check(t, l); showOrigins(got) != showOrigins(was) {
			t.Errorf("%s: patch %d has passed: %s, not %s", short(l), k, short(got), short(was))
		}
	}
	return n
}

// checkCut holds, of P4, that no birth changes where patches are put behind, or picked, and that those that are ahead then make no line that they do not make of all.
func checkCut(t *testing.T, l []api.Named, ids []api.Id, was []api.Origin) {
	t.Helper()
	ask := func(what string, ahead, behind []api.Named) {
		t.Helper()
		if got, _ := check(t, slices.Concat(ahead, behind)); showOrigins(got) != showOrigins(was) {
			t.Errorf("%s, %s %v: %s, not %s", short(l), what, ids, short(got), short(was))
		}
		if _, ok := check(t, ahead); !ok {
			t.Errorf("%s, %s %v: %s make nothing", short(l), what, ids, short(ahead))
		}
	}
	stay, gone := bubble.Part(l, ids)
	ask("parted by", stay, gone)
	picked, rest := bubble.Pick(l, ids)
	ask("picked by", picked, rest)
}

// wanted are origins that s tells: a file's name, and of each line the number of the patch, of the change, and its own, and a comma behind each file but the last one.
func wanted(l []api.Named, s string) []api.Origin {
	var out []api.Origin
	for one := range strings.SplitSeq(s, ",") {
		w := words(one)
		if len(w) == 0 {
			continue
		}
		o := api.Origin{Name: w[0]}
		for _, b := range w[1:] {
			var n [3]int
			for k, digits := range strings.Split(b, ".") {
				n[k], _ = strconv.Atoi(digits)
			}
			o.L = append(o.L, api.Birth{Id: l[n[0]].Id, Prim: n[1], K: n[2]})
		}
		out = append(out, o)
	}
	return out
}

// hold holds what is told of patches against what is wanted.
func hold(t *testing.T, l []api.Named, want string) {
	t.Helper()
	got, ok := check(t, l)
	if !ok || showOrigins(got) != showOrigins(wanted(l, want)) {
		t.Errorf("%s: %s, not %s", short(l), short(got), want)
	}
	checkPassed(t, l, got)
}

// The chapter's example: patch 1 of 0 adds a, and puts x and y there: y is born by its change 1, as 1.
func TestExample(t *testing.T) {
	l := []api.Named{{Id: id(0, 1), L: list(add("a"), put("a", 0, "", "x y"))}}
	got, e := Origins(l)
	if e != 0 || len(got) != 1 || got[0].Name != "a" || len(got[0].L) != 2 {
		t.Fatalf("%v, error %d", got, e)
	}
	if b, ok := Of(got, "a", 1); !ok || b != (api.Birth{Id: id(0, 1), Prim: 1, K: 1}) {
		t.Errorf("%v, %v", b, ok)
	}
	if b, ok := Of(got, "a", 0); !ok || b != (api.Birth{Id: id(0, 1), Prim: 1, K: 0}) {
		t.Errorf("%v, %v", b, ok)
	}
}

// P17.1: files that come and go, and move.
func TestFiles(t *testing.T) {
	for _, c := range []struct {
		l    []api.Named
		want string
	}{
		// No patches; such without changes.
		{nil, ""}, {[]api.Named{}, ""}, {story(nil), ""}, {story(nil, list(), nil), ""}, {make([]api.Named, 4), ""},
		// Files without lines, one and more, and by rising names.
		{story(list(add("a"))), "a"}, {story(list(add("b"), add("a"))), "a, b"}, {story(list(add("b")), list(add("ab")), list(add("a"), add("ba"))), "a, ab, b, ba"}, {story(list(add("az")), nil, list(add("a9")), list(add("a.z"))), "a.z, a9, az"},
		// Files with lines, by rising names, whichever was put first.
		{story(list(add("b"), put("b", 0, "", "x")), list(add("a"), put("a", 0, "", "y z"))), "a 1.1.0 1.1.1, b 0.1.0"},
		{story(list(add("b")), list(add("a")), nil, list(put("b", 0, "", "x"), put("a", 0, "", "y"))), "a 3.1.0, b 3.0.0"},
		// One that is removed; the last one; and added again, with lines and without.
		{story(list(add("a"), rm("a"))), ""}, {story(list(add("a")), list(rm("a"))), ""}, {story(list(add("a"), add("b"), rm("a"))), "b"}, {story(list(add("a"), rm("a"), add("a"))), "a"},
		{story(list(add("a"), put("a", 0, "", "x y")), list(put("a", 0, "x y", ""), rm("a")), list(add("a"))), "a"},
		{story(list(add("a"), put("a", 0, "", "x y")), list(put("a", 0, "x y", ""), rm("a")), list(add("a"), put("a", 0, "", "x"))), "a 2.1.0"},
		{story(list(add("a"), put("a", 0, "", "x")), list(set("a", "x", "")), list(rm("a"), add("a")), list(put("a", 0, "", "x"))), "a 3.0.0"},
		// One that is moved, without lines, and with its births; moved again; and back.
		{story(list(add("a"), move("a", "b"))), "b"}, {story(list(add("a"), put("a", 0, "", "x y"), move("a", "b"))), "b 0.1.0 0.1.1"}, {story(list(add("a"), put("a", 0, "", "x y")), list(move("a", "b")), list(move("b", "c"))), "c 0.1.0 0.1.1"},
		{story(list(add("a"), put("a", 0, "", "x y")), list(move("a", "b"), move("b", "a"))), "a 0.1.0 0.1.1"}, {story(list(add("a"), put("a", 0, "", "x y")), list(move("a", "b")), list(add("a")), list(put("a", 0, "", "z"))), "a 3.0.0, b 0.1.0 0.1.1"},
		// Moved, and changed by its new name; ahead of others, and behind them.
		{story(list(add("a"), put("a", 0, "", "x y")), list(move("a", "b"), put("b", 1, "", "z"))), "b 0.1.0 1.1.0 0.1.1"}, {story(list(add("b"), put("b", 0, "", "x")), list(add("c"), put("c", 0, "", "y")), list(move("c", "a"))), "a 1.1.0, b 0.1.0"}, {story(list(add("b"), put("b", 0, "", "x")), list(add("a"), put("a", 0, "", "y")), list(move("a", "c"))), "b 0.1.0, c 1.1.0"},
		// Onto a name that was removed.
		{story(list(add("b"), put("b", 0, "", "v w")), list(put("b", 0, "v w", ""), rm("b")), list(add("a"), put("a", 0, "", "x")), list(move("a", "b"))), "b 2.1.0"}, {story(list(add("b"), rm("b"), add("a"), put("a", 0, "", "x"), move("a", "b"))), "b 0.3.0"},
		// Onto a name that was moved away; two change names.
		{story(list(add("a"), put("a", 0, "", "x"), add("b"), put("b", 0, "", "y z")), list(move("b", "c")), list(move("a", "b"))), "b 0.1.0, c 0.3.0 0.3.1"},
		{story(list(add("a"), put("a", 0, "", "x"), add("b"), put("b", 0, "", "y z")), list(move("b", "c"), move("a", "b"), move("c", "a"))), "a 0.3.0 0.3.1, b 0.1.0"},
		{story(list(add("a"), put("a", 0, "", "x")), list(move("a", "b"), add("a")), list(move("b", "c"), move("a", "b"))), "b, c 0.1.0"},
		// A file without lines is moved onto the name of one that had some, and a name that had some is added again.
		{story(list(add("a"), put("a", 0, "", "x")), list(move("a", "b")), list(add("c"), move("c", "a"))), "a, b 0.1.0"}, {story(list(add("a"), put("a", 0, "", "x")), list(move("a", "b"), add("a"), rm("a"), add("a"))), "a, b 0.1.0"},
	} {
		hold(t, c.l, c.want)
	}
}

// P17.1: lines that come and go.
func TestLines(t *testing.T) {
	abc := list(add("a"), put("a", 0, "", "x y z"))
	for _, c := range []struct {
		l    []api.Named
		want string
	}{
		// A Patch with no Old lines: at the first line, between, behind the last one; of one line, and of more; of a file without lines.
		{story(abc, list(put("a", 0, "", "v"))), "a 1.0.0 0.1.0 0.1.1 0.1.2"}, {story(abc, list(put("a", 1, "", "v w"))), "a 0.1.0 1.0.0 1.0.1 0.1.1 0.1.2"}, {story(abc, list(put("a", 3, "", "v w"))), "a 0.1.0 0.1.1 0.1.2 1.0.0 1.0.1"}, {story(list(add("a")), list(put("a", 0, "", "v w"))), "a 1.0.0 1.0.1"},
		// With no New lines: so, too; and all.
		{story(abc, list(put("a", 0, "x", ""))), "a 0.1.1 0.1.2"}, {story(abc, list(put("a", 1, "y", ""))), "a 0.1.0 0.1.2"}, {story(abc, list(put("a", 2, "z", ""))), "a 0.1.0 0.1.1"}, {story(abc, list(put("a", 0, "x y", ""))), "a 0.1.2"}, {story(abc, list(put("a", 1, "y z", ""))), "a 0.1.0"}, {story(abc, list(put("a", 0, "x y z", ""))), "a"},
		// With both: as many, fewer, more.
		{story(abc, list(put("a", 0, "x", "v"))), "a 1.0.0 0.1.1 0.1.2"}, {story(abc, list(put("a", 1, "y", "v"))), "a 0.1.0 1.0.0 0.1.2"}, {story(abc, list(put("a", 2, "z", "v"))), "a 0.1.0 0.1.1 1.0.0"}, {story(abc, list(put("a", 0, "x y", "v"))), "a 1.0.0 0.1.2"}, {story(abc, list(put("a", 1, "y", "v w"))), "a 0.1.0 1.0.0 1.0.1 0.1.2"}, {story(abc, list(put("a", 0, "x y z", "v w"))), "a 1.0.0 1.0.1"},
		// One that takes away and puts the same lines, or some of them; one with neither.
		{story(abc, list(put("a", 1, "y", "y"))), "a 0.1.0 1.0.0 0.1.2"}, {story(abc, list(put("a", 0, "x y z", "x y z"))), "a 1.0.0 1.0.1 1.0.2"}, {story(abc, list(put("a", 0, "x y z", "x z"))), "a 1.0.0 1.0.1"},
		{story(abc, list(put("a", 0, "", ""), put("a", 1, "", ""), put("a", 3, "", ""))), "a 0.1.0 0.1.1 0.1.2"}, {story(list(add("a"), put("a", 0, "", ""))), "a"},
		// A Set: of both, of no Old lines, of no New ones, of neither; one that puts the same lines.
		{story(abc, list(set("a", "x y z", "v w"))), "a 1.0.0 1.0.1"}, {story(abc, list(set("a", "x y z", "v w x y z"))), "a 1.0.0 1.0.1 1.0.2 1.0.3 1.0.4"}, {story(list(add("a")), list(set("a", "", "v w"))), "a 1.0.0 1.0.1"}, {story(abc, list(set("a", "x y z", ""))), "a"}, {story(list(add("a")), list(set("a", "", ""))), "a"}, {story(abc, list(set("a", "x y z", "x y z"))), "a 1.0.0 1.0.1 1.0.2"},
		{story(abc, list(set("a", "x y z", "")), list(put("a", 0, "", "z"))), "a 2.0.0"}, {story(abc, list(set("a", "x y z", "z")), list(put("a", 0, "", "x y"))), "a 2.0.0 2.0.1 1.0.0"},
		// Several changes of one file in one patch, and in several: each stands on the ones ahead of it.
		{story(list(add("a"), put("a", 0, "", "x"), put("a", 1, "", "y"), put("a", 0, "", "z"))), "a 0.3.0 0.1.0 0.2.0"}, {story(list(add("a")), list(put("a", 0, "", "x")), list(put("a", 1, "", "y")), list(put("a", 0, "", "z"))), "a 3.0.0 1.0.0 2.0.0"},
		{story(abc, list(put("a", 1, "", "v w"), put("a", 2, "w y", "u"), put("a", 0, "x", ""))), "a 1.0.0 1.1.0 0.1.2"}, {story(abc, list(put("a", 0, "x", "")), list(put("a", 1, "z", "v w")), list(put("a", 1, "v", ""), put("a", 2, "", "x"))), "a 0.1.1 2.0.1 3.1.0"},
		{story(abc, list(put("a", 1, "", "u v w"), put("a", 2, "v", "")), list(put("a", 1, "u w", "w"))), "a 0.1.0 2.0.0 0.1.1 0.1.2"}, {story(abc, list(put("a", 1, "", "u v w")), list(put("a", 2, "v", ""))), "a 0.1.0 1.0.0 1.0.2 0.1.1 0.1.2"},
		// The same lines put by two patches, and by two changes of one; and one of both gone.
		{story(list(add("a")), list(put("a", 0, "", "x")), list(put("a", 0, "", "x"))), "a 2.0.0 1.0.0"}, {story(list(add("a")), list(put("a", 0, "", "x")), list(put("a", 1, "", "x"))), "a 1.0.0 2.0.0"}, {story(list(add("a"), put("a", 0, "", "x x"), put("a", 1, "", "x x"))), "a 0.1.0 0.2.0 0.2.1 0.1.1"},
		{story(list(add("a")), list(put("a", 0, "", "x")), list(put("a", 0, "", "x")), list(put("a", 0, "x", ""))), "a 1.0.0"}, {story(list(add("a")), list(put("a", 0, "", "x")), list(put("a", 0, "", "x")), list(put("a", 1, "x", ""))), "a 2.0.0"},
		// Of one file alone, of several; files do not mix.
		{story(list(add("a"), add("b"), put("a", 0, "", "x y"), put("b", 0, "", "x y")), list(put("b", 1, "", "z")), list(set("a", "x y", "y"))), "a 2.0.0, b 0.3.0 1.0.0 0.3.1"}, {story(abc, nil, list(add("b"), set("b", "", "x y z"), put("b", 0, "x", ""))), "a 0.1.0 0.1.1 0.1.2, b 2.1.1 2.1.2"},
		// A patch without changes in between is no patch's change.
		{story(nil, abc, nil, list(put("a", 1, "y", "v")), nil), "a 1.1.0 3.0.0 1.1.2"},
	} {
		hold(t, c.l, c.want)
	}
}

// P17.1: births have the Ids of patches as they are, also such as may not be; Deps and Texts are not asked for.
func TestIds(t *testing.T) {
	for k, i := range []api.Id{{}, id(0, 1), id(7, full), id(8, 1), id(-1, -1), id(0, full+1), id(math.MaxInt, math.MinInt), id(math.MinInt, math.MaxInt)} {
		l := []api.Named{{Id: i, Deps: []api.Id{i, id(9, 9)}, Text: of(k*20, "\n"), L: list(add("a"), put("a", 0, "", "x y"))}, {Id: id(3, 3), L: list(put("a", 1, "", "z"))}}
		hold(t, l, "a 0.1.0 1.0.0 0.1.1")
	}
	// Two patches of one Id: births are told by it, so that one may come twice.
	one := sameIds(story(list(add("a"), put("a", 0, "", "x")), list(add("b"), put("b", 0, "", "y"))))
	hold(t, one, "a 0.1.0, b 0.1.0")
	hold(t, sameIds(story(list(add("a"), put("a", 0, "", "x")), list(put("a", 1, "", "y"), put("a", 0, "", "z")))), "a 0.1.0 0.1.0 0.0.0")
	if got, e := Origins(one); e != 0 || got[0].L[0] != got[1].L[0] {
		t.Errorf("%v, error %d", got, e)
	}
	// One patch twice, where it fits twice.
	p := story(list(put("a", 0, "", "x y")))[0]
	hold(t, []api.Named{{Id: id(1, 1), L: list(add("a"))}, p, p}, "a 1.0.0 1.0.1 1.0.0 1.0.1")
}

// P17.1, R2, R4: the errors of each kind of change, at the first change, in between, and at the last one.
func TestErrors(t *testing.T) {
	begin := list(add("a"), put("a", 0, "", "x y"), add("b"))
	unfit := list(
		add("a"), add("b"), rm("a"), rm("c"), move("c", "d"), move("a", "b"), move("b", "a"), put("c", 0, "", "x"), put("c", 0, "", ""), put("a", 3, "", "x"), put("a", 3, "", ""), put("a", full, "", "x"), put("a", 0, "y", ""), put("a", 1, "y z", ""), put("a", 2, "x", "x"), put("b", 0, "x", ""), put("b", 1, "", ""),
		set("c", "", "x"), set("c", "", ""), set("a", "", "x"), set("a", "x", ""), set("a", "x y z", ""), set("a", "y x", ""), set("b", "x", ""),
	)
	ask := func(l []api.Named, want api.Errno) {
		t.Helper()
		got, e := Origins(l)
		if e != want || len(got) != 0 {
			t.Errorf("%s: %s, error %d, not %d", short(l), short(got), e, want)
		}
		check(t, l)
	}
	all := func(bad api.Prim, want api.Errno) {
		t.Helper()
		ask(story(slices.Concat(begin, list(bad))), want)
		ask(story(begin, list(bad)), want)
		ask(story(begin, list(put("a", 0, "", "v"), rm("b"), add("b"), put("a", 0, "v", ""), bad, put("a", 0, "", "v"))), want)
		ask(story(begin, list(bad), nil, list(add("c"))), want)
		ask(story(nil, begin, nil, list(bad), list(bad)), want)
	}
	for _, bad := range unfit {
		all(bad, api.ErrApply)
		// Of several errors the first one's.
		for _, worse := range wrong() {
			ask(story(begin, list(bad, worse)), api.ErrApply)
			ask(story(begin, list(bad), list(worse)), api.ErrApply)
			ask(story(begin, list(worse, bad)), api.ErrArg)
			ask(story(begin, list(worse), list(bad)), api.ErrArg)
		}
	}
	for _, bad := range wrong() {
		all(bad, api.ErrArg)
		ask(story(list(bad)), api.ErrArg)
		ask(story(list(bad), begin), api.ErrArg)
	}
	// Of no files: whatever asks for one.
	for _, bad := range list(rm("a"), move("a", "b"), put("a", 0, "", "x"), put("a", 0, "", ""), set("a", "", "x"), set("a", "", "")) {
		ask(story(list(bad)), api.ErrApply)
		ask(story(list(bad), list(add("a"))), api.ErrApply)
		ask(story(nil, list(add("b"), rm("b"), bad)), api.ErrApply)
	}
}

// P17.2: the birth of a line; of what is not there there is none.
func TestOf(t *testing.T) {
	b := func(k int) api.Birth { return api.Birth{Id: id(k, k+1), Prim: 2 * k, K: 3 * k} }
	l := []api.Origin{
		{Name: "b", L: []api.Birth{b(1), b(2), b(3)}}, {Name: "a", L: []api.Birth{b(4)}}, {Name: "c"}, {Name: "b", L: []api.Birth{b(5), b(6), b(7), b(8)}}, {Name: "", L: []api.Birth{b(9)}},
		{Name: "c", L: []api.Birth{b(10)}}, {Name: "A b\n", L: []api.Birth{b(11), {}}}, {Name: of(99, "n"), L: []api.Birth{{}, {Id: id(-1, math.MinInt), Prim: -7, K: math.MaxInt}}},
	}
	for _, c := range []struct {
		name string
		line int
		want api.Birth
		is   bool
	}{
		{"b", 0, b(1), true}, {"b", 1, b(2), true}, {"b", 2, b(3), true}, {"a", 0, b(4), true}, {"", 0, b(9), true}, {"A b\n", 0, b(11), true},
		// Names that are not there, and nearly there.
		{"d", 0, api.Birth{}, false}, {"B", 0, api.Birth{}, false}, {"bb", 0, api.Birth{}, false}, {"A", 0, api.Birth{}, false}, {"A b", 0, api.Birth{}, false}, {of(98, "n"), 0, api.Birth{}, false},
		// Below 0, one behind the last one, and further; also of a Name that stands twice, of which only the first one counts.
		{"b", -1, api.Birth{}, false}, {"b", 3, api.Birth{}, false}, {"b", 4, api.Birth{}, false}, {"a", 1, api.Birth{}, false}, {"a", -1, api.Birth{}, false}, {"c", 0, api.Birth{}, false}, {"c", -1, api.Birth{}, false}, {"b", math.MaxInt, api.Birth{}, false}, {"b", math.MinInt, api.Birth{}, false}, {"", 1, api.Birth{}, false},
		// A birth that is noughts is one, too, and so is one that may not be.
		{"A b\n", 1, api.Birth{}, true}, {of(99, "n"), 0, api.Birth{}, true}, {of(99, "n"), 1, api.Birth{Id: id(-1, math.MinInt), Prim: -7, K: math.MaxInt}, true},
	} {
		if got, is := Of(l, c.name, c.line); got != c.want || is != c.is {
			t.Errorf("%q, %d: %v, %v", c.name, c.line, got, is)
		}
		for _, none := range [][]api.Origin{nil, {}, make([]api.Origin, 3)} {
			if got, is := Of(none, c.name, c.line); is || got != (api.Birth{}) {
				t.Errorf("%v, %q, %d: %v, %v", none, c.name, c.line, got, is)
			}
		}
	}
	// Many origins, and many births.
	var long []api.Birth
	for k := range 1 << 16 {
		long = append(long, b(k))
	}
	wide := append(make([]api.Origin, 1<<16), api.Origin{Name: "a", L: long}, api.Origin{Name: "a"})
	for _, k := range []int{0, 1, 1<<15 - 1, 1<<16 - 1} {
		if got, is := Of(wide, "a", k); !is || got != b(k) {
			t.Errorf("%d: %v, %v", k, got, is)
		}
	}
	if got, is := Of(wide, "a", 1<<16); is || got != (api.Birth{}) {
		t.Errorf("%v, %v", got, is)
	}
}

// P17.3: the lines of patches that pass one another are of the same births, as which the patches are others then.
func TestPassed(t *testing.T) {
	ten := list(add("a"), put("a", 0, "", "l0 l1 l2 l3 l4 l5 l6 l7 l8 l9"))
	for _, c := range []struct {
		p, q []api.Prim
		want string
	}{
		{list(put("a", 0, "", "x y")), list(put("a", 5, "l3", "z")), "a 1.0.0 1.0.1 0.1.0 0.1.1 0.1.2 2.0.0 0.1.4 0.1.5 0.1.6 0.1.7 0.1.8 0.1.9"},
		{list(put("a", 8, "l8", "x")), list(put("a", 0, "l0 l1", "v"), put("a", 4, "", "w")), "a 2.0.0 0.1.2 0.1.3 0.1.4 2.1.0 0.1.5 0.1.6 0.1.7 1.0.0 0.1.9"},
		{list(move("a", "b")), list(put("b", 9, "l9", "x y")), "b 0.1.0 0.1.1 0.1.2 0.1.3 0.1.4 0.1.5 0.1.6 0.1.7 0.1.8 2.0.0 2.0.1"},
		{list(put("a", 1, "l1 l2 l3 l4 l5 l6 l7 l8 l9", "x")), list(move("a", "b")), "b 0.1.0 1.0.0"},
		{list(move("a", "b")), list(set("b", "l0 l1 l2 l3 l4 l5 l6 l7 l8 l9", "l0 l9")), "b 2.0.0 2.0.1"},
		{list(set("a", "l0 l1 l2 l3 l4 l5 l6 l7 l8 l9", "l0 l9")), list(move("a", "b")), "b 1.0.0 1.0.1"},
		{list(put("a", 0, "l0 l1 l2 l3 l4 l5", "x"), move("a", "c")), list(put("c", 4, "l9", "y"), add("b"), put("b", 0, "", "z")), "b 2.2.0, c 1.0.0 0.1.6 0.1.7 0.1.8 2.0.0"},
		{nil, list(set("a", "l0 l1 l2 l3 l4 l5 l6 l7 l8 l9", "")), "a"},
	} {
		l := story(ten, c.p, c.q)
		hold(t, l, c.want)
		if _, _, ok := trade.Pass(l[1], l[2]); !ok {
			t.Errorf("%s: they do not pass", short(l[1:]))
		}
	}
}

// chosenOf are the ids of those patches of which a bit of n tells.
func chosenOf(l []api.Named, n int) []api.Id {
	var out []api.Id
	for k, p := range l {
		if n>>k&1 == 1 {
			out = append(out, p.Id)
		}
	}
	return out
}

// P17.1, P17.3, P4: all stories of five of some changes, of nothing, and on some files, each change a patch, all of them one patch, and some of them; wherever two pass, and whatever is put behind or picked.
func TestAllSmall(t *testing.T) {
	few := list(
		add("a"), rm("a"), move("a", "b"), move("b", "a"), put("a", 0, "", "x"), put("a", 0, "x", "y x"), put("a", 1, "x", ""), put("a", 3, "", "z"), put("b", 0, "x", "x"), put("b", 2, "y", "x"), set("a", "x", "x"), set("b", "x x", ""),
	)
	stories, passed := 0, 0
	try := func(told [][]api.Prim) {
		l := story(told...)
		got, ok := check(t, l)
		if !ok {
			t.Fatalf("%s: make nothing", short(l))
		}
		stories++
		passed += checkPassed(t, l, got)
		checkCut(t, l, chosenOf(l, stories%(1<<len(l))), got)
	}
	var tell func(now api.Tree, told [][]api.Prim, more int)
	tell = func(now api.Tree, told [][]api.Prim, more int) {
		try(told)
		if n := len(told); n > 2 {
			k := stories % (n - 1)
			try(slices.Concat(told[:k], [][]api.Prim{slices.Concat(told[k], told[k+1])}, told[k+2:]))
			try([][]api.Prim{slices.Concat(told...)})
		}
		for _, p := range few {
			if next, e := prim.Apply(now, p); more > 0 && e == api.OK {
				tell(next, append(slices.Clone(told), list(p)), more-1)
			}
		}
	}
	tell(nil, nil, 5)
	for _, begin := range [][]api.Prim{list(add("a"), put("a", 0, "", "x x")), list(add("b"), put("b", 0, "", "x y y x z")), list(add("a"), put("a", 0, "", "x y z"), add("b"), put("b", 0, "", "x x")), list(add("c"))} {
		p := story(begin)
		now, _ := toldTree(p)
		tell(now, [][]api.Prim{begin}, 4)
	}
	if stories < 2000 || passed < 700 {
		t.Errorf("only %d stories, and only %d patches pass", stories, passed)
	}
}

// P17.1, R2, R4: all lists of at most three of some patches, whether they fit or not.
func TestAllThatFitOrNot(t *testing.T) {
	few := append(wrong()[2:12:12], fair()...)
	good, bad := 0, map[api.Errno]int{}
	try := func(l []api.Named) {
		if got, ok := check(t, l); ok {
			good++
			checkPassed(t, l, got)
			return
		}
		_, e := toldTree(l)
		bad[e]++
	}
	one, two := list(add("a"), put("a", 0, "", "x")), list(add("b"), put("b", 0, "", "x y x"))
	for _, p := range few {
		try(story(list(p)))
		for _, q := range few {
			try(story(list(p, q)))
			try(story(list(p), list(q)))
			for _, r := range few {
				try(story(one, list(p), list(q), list(r)))
				try(story(append(one[:2:2], p), list(q, r)))
				try(story(two, list(p), list(q), list(r)))
				try(story(one, two, list(p, q), list(r)))
			}
		}
	}
	if good < 200 || bad[api.ErrArg] < 1000 || bad[api.ErrApply] < 1000 || len(bad) != 2 {
		t.Errorf("only %d are good, bad %v", good, bad)
	}
}

// fit is a change that fits a tree, as next chooses it: a number from 0 on, below the one that it is given.
func fit(x api.Tree, next func(int) int) api.Prim {
	free := slices.DeleteFunc(words("a b c d e f"), func(s string) bool {
		return slices.ContainsFunc(x, func(f api.File) bool { return f.Name == s })
	})
	what := next(12)
	if len(x) == 0 || what == 0 && len(free) > 0 {
		return add(free[next(len(free))])
	}
	f := x[next(len(x))]
	if what <= 2 && len(free) > 0 {
		return move(f.Name, free[next(len(free))])
	}
	if what == 3 && len(f.Lines) == 0 {
		return rm(f.Name)
	}
	now := numbered(50)[next(50):][:next(6)%3]
	if what == 4 && len(f.Lines) < 100 {
		return with(set(f.Name, "", ""), api.Hunk{Old: slices.Clone(f.Lines), New: append(slices.Clone(f.Lines), now...)})
	}
	from := next(len(f.Lines) + 1)
	old := f.Lines[from:][:next(min(3, len(f.Lines)-from+1))]
	return with(put(f.Name, 0, "", ""), api.Hunk{At: from, Old: slices.Clone(old), New: slices.Clone(now)})
}

// told are n patches, one behind the other, that make something of nothing: the first one files of some lines; some hang by Deps on some ahead of them, or behind.
func told(size, n int, next func(int) int) []api.Named {
	l := []api.Named{{Id: id(0, 1), L: list(add("a"), add("c"), add("e"), put("a", 0, "", ""), put("c", 0, "", ""))}}
	l[0].L[3].H.New, l[0].L[4].H.New = numbered(size), numbered(size*3/4)
	x, _ := toldTree(l)
	for k := 1; k <= n; k++ {
		p := api.Named{Id: id(k%8, k+1), Text: fmt.Sprint("t", next(9))}
		for range next(3) * next(2) {
			other := next(3 * n)
			p.Deps = append(p.Deps, id(other%8, other+1))
		}
		for range next(5) {
			q := fit(x, next)
			y, e := prim.Apply(x, q)
			if e != api.OK {
				break
			}
			p.L, x = append(p.L, q), y
		}
		l = append(l, p)
	}
	return l
}

// P17.1, P17.3, P4: longer stories, of which some patches pass others, or are put behind, or picked; by a fixed seed.
func TestStories(t *testing.T) {
	chance := rand.New(rand.NewPCG(17, 1))
	lines, patches, passed := 0, 0, 0
	for range 1000 {
		l := told(chance.IntN(40), 2+chance.IntN(10), chance.IntN)
		got, ok := check(t, l)
		if !ok {
			t.Fatalf("%s: make nothing", short(l))
		}
		passed += checkPassed(t, l, got)
		for range 2 {
			checkCut(t, l, chosenOf(l, chance.IntN(1<<len(l))&chance.IntN(1<<len(l))), got)
		}
		of := map[api.Id]struct{}{}
		for _, o := range got {
			lines += len(o.L)
			for _, b := range o.L {
				of[b.Id] = struct{}{}
			}
		}
		if patches += len(of); t.Failed() {
			return
		}
	}
	if lines < 20000 || patches < 3500 || passed < 2000 {
		t.Errorf("only %d lines of %d patches, of which %d pass", lines, patches, passed)
	}
}

// P17.3, P4: lists that are cut in two, joined, and cut again, many times, and of which two pass one another in between, always make lines of the same births.
func TestInAnyOrder(t *testing.T) {
	chance := rand.New(rand.NewPCG(17, 2))
	others := 0
	for range 200 {
		l := told(30, 8, chance.IntN)
		was, first := showOrigins(must(t, l)), show(l)
		for range 12 {
			ids := chosenOf(l, chance.IntN(512)&chance.IntN(512))
			ahead, behind := bubble.Part(l, ids)
			if chance.IntN(2) == 0 {
				ahead, behind = bubble.Pick(l, ids)
			}
			l = slices.Concat(ahead, behind)
			k := chance.IntN(len(l) - 1)
			if p, q, ok := trade.Pass(l[k], l[k+1]); ok {
				l[k], l[k+1] = p, q
			}
			if now := showOrigins(must(t, l)); now != was {
				t.Fatalf("%s: %s, not %s", short(l), short(now), short(was))
			}
		}
		if show(l) != first {
			others++
		}
	}
	if others < 100 {
		t.Errorf("only %d are others", others)
	}
}

// must are the origins of patches that make something of nothing.
func must(t *testing.T, l []api.Named) []api.Origin {
	t.Helper()
	got, ok := check(t, l)
	if !ok {
		t.Fatalf("%s: make nothing", short(l))
	}
	return got
}

// P17.1, P17.3, R1: as many patches as there may be, of as many changes, files and lines; and more of each than there may be.
func TestMany(t *testing.T) {
	var l []api.Named
	for k := range 60 {
		name := fmt.Sprint("f", 10+k%30)
		p := api.Named{Id: id(k%8, k+1), Deps: counted(60, 7, 100), Text: of(80, "t"), L: list(add(name), put(name, 0, "", ""))}
		if k >= 30 {
			p.L = list(put(name, 100, "", ""), put(name, 300, "", ""))
		}
		p.L[1].H.New = many(200, of(80, "x"))
		for n := 2; n < 200; n++ {
			p.L = append(p.L, put(name, n, of(80, "x"), of(80, "y")))
		}
		if k >= 30 {
			p.L[0].H.New = many(200, of(80, "x"))
			p.L = append(p.L[:2], put(name, 100, of(80, "x"), "z"))
		}
		l = append(l, p)
	}
	got := must(t, l)
	for k, o := range got {
		if len(o.L) != 600 {
			t.Fatalf("%d: %s", k, short(o))
		}
		first, last := l[k].Id, l[k+30].Id
		for _, x := range []struct {
			line int
			want api.Birth
		}{{0, api.Birth{Id: first, Prim: 1}}, {99, api.Birth{Id: first, Prim: 99}}, {100, api.Birth{Id: last, Prim: 2}}, {101, api.Birth{Id: last, K: 1}}, {299, api.Birth{Id: last, K: 199}}, {300, api.Birth{Id: last, Prim: 1}}, {499, api.Birth{Id: last, Prim: 1, K: 199}}, {500, api.Birth{Id: first, Prim: 100}}, {599, api.Birth{Id: first, Prim: 199}}} {
			if b, ok := Of(got, o.Name, x.line); !ok || b != x.want {
				t.Errorf("%s, %d: %v, not %v", o.Name, x.line, b, x.want)
			}
		}
	}
	if len(got) != 30 {
		t.Errorf("%d files", len(got))
	}
	p, q, ok := trade.Pass(l[29], l[30])
	if now, e := Origins(slices.Concat(l[:29], []api.Named{p, q}, l[31:])); !ok || e != 0 || showOrigins(now) != showOrigins(got) {
		t.Errorf("passed: %v, %s, error %d", ok, short(now), e)
	}
	if t.Failed() {
		return
	}
	// More patches, changes in one, and lines of a file.
	row := []api.Named{{Id: id(9, 9), L: list(add("a"))}}
	for k := range 300 {
		row = append(row, api.Named{Id: id(0, k+1), L: list(put("a", k/2, "", "x y"), put("a", k/2, "x", ""))})
	}
	one := []api.Named{{Id: id(3, 4), L: patch.All(row)}}
	ofRow, ofOne := must(t, row), must(t, one)
	for k, at := range midst(300) {
		if b, _ := Of(ofRow, "a", k); b != (api.Birth{Id: id(0, at+1), K: 1}) {
			t.Fatalf("%d: %v", k, b)
		}
		if b, _ := Of(ofOne, "a", k); b != (api.Birth{Id: id(3, 4), Prim: 1 + 2*at, K: 1}) {
			t.Fatalf("%d: %v", k, b)
		}
	}
	// More files; a file that is moved often; patches without changes, of which there are very many.
	files := api.Named{Id: id(1, 1)}
	for k := range 200 {
		name := fmt.Sprint("f", 100+k)
		files.L = append(files.L, add(name), put(name, 0, "", "x"), move(name, fmt.Sprint("g", 299-k)))
	}
	for k, o := range must(t, []api.Named{files}) {
		if o.Name != fmt.Sprint("g", 100+k) || len(o.L) != 1 || o.L[0] != (api.Birth{Id: id(1, 1), Prim: 1 + 3*(199-k)}) {
			t.Fatalf("%d: %v", k, o)
		}
	}
	noughts := make([]api.Named, 1<<18)
	noughts[1<<17] = api.Named{Id: id(4, 4), Deps: make([]api.Id, 1<<20), Text: of(1<<20, "x"), L: list(add("a"), put("a", 0, "", "x"))}
	if got, e := Origins(noughts); e != 0 || showOrigins(got) != showOrigins(wanted(noughts[1<<17:], "a 0.1.0")) {
		t.Errorf("%s, error %d", short(got), e)
	}
	if got, e := Origins([]api.Named{{L: make([]api.Prim, 1<<20)}}); e != api.ErrArg || len(got) != 0 {
		t.Errorf("%s, error %d", short(got), e)
	}
	if got, e := Origins([]api.Named{{L: list(add("a"), with(put("a", 0, "", ""), api.Hunk{New: many(1<<20, "x")}))}}); e != api.ErrArg || len(got) != 0 {
		t.Errorf("%s, error %d", short(got), e)
	}
}

// midst are the numbers of n lines, each of which is put in the midst of those that there are then.
func midst(n int) []int {
	var l []int
	for k := range n {
		l = slices.Insert(l, k/2, k)
	}
	return l
}

// chosen is a patch of whatever next chooses, that may be or not.
func chosen(next func(int) int) api.Named {
	some := []int{0, 1, 2, 7, 8, -1, full, full + 1, math.MaxInt, math.MinInt}
	number := func() int { return some[next(next(len(some))+1)] }
	p := api.Named{Id: id(number(), number()), Text: []string{"", "t", of(80, "t"), of(81, "t"), "t\n", "\n"}[next(next(6)+1)]}
	for range next(4) {
		p.Deps = append(p.Deps, id(number(), number()))
	}
	for range next(4) {
		if next(30) == 0 {
			p.L = append(p.L, wrong()[next(len(wrong()))])
		} else {
			p.L = append(p.L, fair()[next(len(fair()))])
		}
	}
	return p
}

// chosenOrigins are whatever next chooses, that may be told or not.
func chosenOrigins(next func(int) int) []api.Origin {
	var l []api.Origin
	for range next(5) {
		o := api.Origin{Name: []string{"a", "b", "", "A"}[next(4)]}
		for range next(4) {
			o.L = append(o.L, api.Birth{Id: chosen(next).Id, Prim: next(9) - 1, K: next(9) - 1})
		}
		l = append(l, o)
	}
	return l
}

// checkOf holds P17.2 of any origins.
func checkOf(t *testing.T, l []api.Origin, name string, line int) bool {
	t.Helper()
	got, ok := Of(l, name, line)
	for _, o := range l {
		if o.Name != name {
			continue
		}
		for k, b := range o.L {
			if k == line {
				if !ok || got != b {
					t.Errorf("%s, %q, %d: %v, %v, not %v", short(l), name, line, got, ok, b)
				}
				return true
			}
		}
		break
	}
	if ok || got != (api.Birth{}) {
		t.Errorf("%s, %q, %d: %v, %v", short(l), name, line, got, ok)
	}
	return false
}

// R1: whatever is given, nothing panics.
func TestWhateverIsGiven(t *testing.T) {
	chance := rand.New(rand.NewPCG(17, 3))
	good, lines, bad := 0, 0, map[api.Errno]int{}
	for range 40000 {
		l := story(list(add("a")))[:chance.IntN(2)]
		for range chance.IntN(5) {
			l = append(l, chosen(chance.IntN))
		}
		if got, ok := check(t, l); ok {
			if slices.ContainsFunc(got, func(o api.Origin) bool { return len(o.L) > 0 }) {
				good++
			}
			checkPassed(t, l, got)
		} else {
			_, e := toldTree(l)
			bad[e]++
		}
		if checkOf(t, chosenOrigins(chance.IntN), []string{"a", "b", "", "c"}[chance.IntN(4)], chance.IntN(6)-2) {
			lines++
		}
		if t.Failed() {
			return
		}
	}
	if good < 500 || lines < 2500 || bad[api.ErrArg] < 1000 || bad[api.ErrApply] < 10000 || len(bad) != 2 {
		t.Errorf("only %d make lines, %d are told, bad %v", good, lines, bad)
	}
}

// markedLines is l with room behind it, in which a write is seen; so are marked patches, with their Deps, changes and lines.
func markedLines(l []string) []string { return append(slices.Clone(l), "mark", "mark")[:len(l)] }

func marked(l []api.Named) []api.Named {
	out := append(slices.Clone(l), api.Named{Text: "mark"}, api.Named{Text: "mark"})[:len(l)]
	for k, p := range l {
		out[k].Deps = append(slices.Clone(p.Deps), id(99, 99), id(99, 99))[:len(p.Deps)]
		out[k].L = append(slices.Clone(p.L), add("mark"), add("mark"))[:len(p.L)]
		for n, q := range p.L {
			out[k].L[n].H.Old, out[k].L[n].H.New = markedLines(q.H.Old), markedLines(q.H.New)
		}
	}
	return out
}

// wide shows all of marked patches, with the room behind whatever they have.
func wide(l []api.Named) string {
	l = copiedRoom(l)
	for k, p := range l {
		l[k].Deps, l[k].L = room(p.Deps), copiedRoom(p.L)
		for n, q := range l[k].L[:len(p.L)] {
			l[k].L[n].H.Old, l[k].L[n].H.New = room(q.H.Old), room(q.H.New)
		}
	}
	return show(l)
}

// room is a list with what stands in the two places behind it, if it has such; copiedRoom the same in memory of its own.
func room[T any](l []T) []T { return l[:min(cap(l), len(l)+2)] }

func copiedRoom[T any](l []T) []T { return slices.Clone(room(l)) }

// spoilAll writes over a list, and over the room behind it; spoilPatches over all that patches have.
func spoilAll[T any](l []T, with T) {
	l = l[:cap(l)]
	for k := range l {
		l[k] = with
	}
}

func spoilPatches(l []api.Named) {
	for _, p := range l {
		for _, q := range p.L {
			spoilAll(q.H.Old, "spoilt")
			spoilAll(q.H.New, "spoilt")
		}
		spoilAll(p.L, api.Prim{Kind: 9, Name: "spoilt"})
		spoilAll(p.Deps, id(-7, -7))
	}
	spoilAll(l, api.Named{Text: "spoilt"})
}

// checkApart holds that no two lists of births that are answered share memory; it writes over all of them.
func checkApart(t *testing.T, what string, l []api.Origin) {
	t.Helper()
	for k, o := range l {
		left := showOrigins(l[k+1:])
		if spoilAll(o.L, api.Birth{Prim: -7}); showOrigins(l[k+1:]) != left {
			t.Fatalf("%s: births of file %d of what is answered are shared", what, k)
		}
	}
}

// checkOwn holds R3: what is handed in stays, its room too, and what is answered shares nothing with that, nor within itself, nor with what is answered once more.
func checkOwn(t *testing.T, l []api.Named) {
	t.Helper()
	in := marked(l)
	was := wide(in)
	got, e := Origins(in)
	again, _ := Origins(in)
	want := showOrigins(got)
	stays := func(what string) {
		t.Helper()
		if wide(in) != was {
			t.Fatalf("%s: what was handed in is now %s: %s", short(l), short(in), what)
		}
	}
	stays("changed")
	checkApart(t, short(l), again)
	spoilAll(again, api.Origin{Name: "spoilt"})
	stays("shared with what is answered")
	spoilPatches(in)
	if showOrigins(got) != want {
		t.Fatalf("%s: what was answered is then %s, error %d", short(l), short(got), e)
	}
}

// R3: patches that make files of each kind of change, such as may not be, such without changes and without Deps, and none.
func TestNothingIsShared(t *testing.T) {
	few := [][]api.Prim{
		nil, list(), list(add("b")), list(put("a", 0, "x", "")), list(put("a", 1, "", "v w")), list(set("a", "x y z", "x y z")), list(set("a", "x y z", "")), list(move("a", "b")), list(add("b"), put("b", 0, "", "x")), list(put("a", 0, "", ""), put("a", 0, "x y z", "x y z")),
		list(put("a", 0, "x y z", ""), rm("a")), list(move("a", "b"), add("a"), put("a", 0, "", "v")), list(with(put("a", 2, "", ""), api.Hunk{At: 2, Old: []string{}, New: []string{}})), list(put("b", 0, "x", "x y")), wrong()[:1], list(put("a", 9, "", "x")),
	}
	begin := list(add("a"), put("a", 0, "", "x y z"))
	checkOwn(t, nil)
	checkOwn(t, make([]api.Named, 3))
	for _, p := range few {
		checkOwn(t, story(p))
		checkOwn(t, story(begin, p))
		for _, q := range few {
			checkOwn(t, story(begin, p, q))
			checkOwn(t, story(begin, slices.Concat(p, q)))
			checkOwn(t, sameIds(story(begin, p, nil, q)))
		}
	}
	checkOwn(t, told(30, 20, rand.New(rand.NewPCG(17, 4)).IntN))
	// Of: origins, and the room behind them, stay.
	b := api.Birth{Id: id(1, 2), Prim: 3, K: 4}
	births := append([]api.Birth{b, {}, b}, b, b)[:3]
	l := append([]api.Origin{{Name: "a", L: births}, {Name: "b", L: births[:1]}}, api.Origin{Name: "mark"})[:2]
	before := showOrigins(room(l)) + fmt.Sprint(room(births))
	for _, name := range words("a b c mark") {
		for k := -1; k < 5; k++ {
			checkOf(t, l, name, k)
		}
	}
	if now := showOrigins(room(l)) + fmt.Sprint(room(births)); now != before {
		t.Errorf("%s, and then %s", before, now)
	}
}

// R3: one list of lines that all changes have, and pieces of it; one list of changes that all patches have, and pieces of it; one patch many times.
func TestOneListManyTimes(t *testing.T) {
	lines := markedLines(words("x x x x"))
	changes := list(
		add("a"), with(put("a", 0, "", ""), api.Hunk{New: lines}), with(put("a", 0, "", ""), api.Hunk{At: 1, Old: lines[:2], New: lines[1:]}), with(set("a", "", ""), api.Hunk{Old: lines[:0], New: lines}), with(put("a", 0, "", ""), api.Hunk{Old: lines, New: lines[:0]}),
		rm("a"), move("a", "b"), add("a"), with(put("b", 0, "", ""), api.Hunk{Old: lines[:1], New: lines[2:]}), move("b", "c"), with(set("c", "", ""), api.Hunk{Old: lines, New: lines}),
	)
	good := 0
	for i := range changes {
		for j := i; j <= len(changes); j++ {
			p := api.Named{Id: id(1, 1), L: changes[i:j]}
			for _, q := range changes {
				l := []api.Named{{Id: id(0, 1), L: changes[:2]}, p, {Id: id(1, 2), L: list(q)}, p}
				before := wide(l)
				for k := range l {
					if got, ok := check(t, l[:k+1]); ok {
						checkApart(t, short(l), got)
						good++
					}
				}
				if wide(l) != before || !slices.Equal(lines[:6], words("x x x x mark mark")) {
					t.Fatalf("%s: is now %s, %q", before, short(l), lines[:6])
				}
			}
		}
	}
	if good < 800 {
		t.Errorf("only %d are good", good)
	}
}

// R5: what is asked does not hang on what was asked ahead of it.
func TestAskedOnceMore(t *testing.T) {
	l := []api.Named{{Id: id(0, 1), L: list(add("b"), put("b", 0, "", "x y"), add("a"))}, {Id: id(1, 1), L: list(put("b", 1, "", "z"), move("b", "c"))}}
	asked := func() string {
		got, e := Origins(l)
		none, bad := Origins(l[1:])
		return fmt.Sprint(got, e, none, bad) + fmt.Sprint(Of(got, "c", 1)) + fmt.Sprint(Of(got, "b", 1)) + fmt.Sprint(Origins(l[:1])) + fmt.Sprint(Origins(nil))
	}
	first := asked()
	want := "[{a []} {c [{{0 1} 1 0} {{1 1} 0 0} {{0 1} 1 1}]}] 0 [] 5{{1 1} 0 0} true{{0 0} 0 0} false[{a []} {b [{{0 1} 1 0} {{0 1} 1 1}]}] 0[] 0"
	if first != want {
		t.Errorf("%s, not %s", first, want)
	}
	for _, bad := range wrong() {
		odd := append(story(list(add("a"), put("a", 0, "", "x"), add("b")), list(bad)), l...)
		for k := range odd {
			got, _ := Origins(odd[k:])
			Of(got, "b", k)
			Origins(odd[:k])
		}
	}
	if again := asked(); again != first {
		t.Errorf("%s, and then %s", first, again)
	}
}

func FuzzBlame(f *testing.F) {
	f.Add([]byte{}, []byte{}, byte(0), uint16(0))
	f.Add([]byte{5, 3, 1, 2, 3, 4, 5, 6, 1, 0, 2}, []byte{5, 1, 9, 0, 20, 1}, byte(40), uint16(1))
	f.Add([]byte{0, 4, 9, 0, 1, 1, 5, 0, 1, 1, 30, 1, 2, 1, 1}, []byte{9, 0, 7, 1, 3, 0, 3, 0, 4, 1, 1, 1}, byte(20), uint16(6))
	f.Add([]byte{200, 17, 3, 255, 1, 90, 7, 8, 4, 3, 5, 6, 7, 8, 9}, []byte{200, 11, 0, 3, 2, 1, 100, 4, 4}, byte(5), uint16(9))
	f.Fuzz(func(t *testing.T, made, other []byte, size byte, which uint16) {
		l := told(int(size)%201, min(8, len(made)/3), from(made))
		got := must(t, l)
		checkPassed(t, l, got)
		checkCut(t, l, chosenOf(l, int(which)), got)
		checkOwn(t, l)
		next := from(other)
		checkOf(t, got, "c", next(256)-1)
		checkOf(t, chosenOrigins(next), "a", next(5)-1)
		for range 3 {
			odd := append(slices.Clone(l), chosen(next))
			odd[next(len(odd))] = chosen(next)
			if got, ok := check(t, odd); ok {
				checkPassed(t, odd, got)
			}
			checkOwn(t, odd)
		}
	})
}

// from chooses by bytes, one by one; when there are none any more, it chooses 0.
func from(b []byte) func(int) int {
	return func(n int) int {
		if len(b) == 0 || n == 0 {
			return 0
		}
		k := int(b[0]) % n
		b = b[1:]
		return k
	}
}
