package news

import (
	"fmt"
	"math/rand/v2"
	"slices"
	"strings"
	"testing"

	"quiltmaker/api"
	"quiltmaker/flow"
	"quiltmaker/hunk"
	"quiltmaker/prim"
	"quiltmaker/tree"
)

// words is a list of the words of s.
func words(s string) []string { return strings.Fields(s) }

// of is n bytes of s, one behind the other; many a list of n lines s; numbered are n lines, no two of which are the same.
func of(n int, s string) string { return strings.Repeat(s, n) }

func many(n int, s string) []string { return slices.Repeat([]string{s}, n) }

func numbered(n int, s string) []string {
	var l []string
	for k := range n {
		l = append(l, fmt.Sprint(s, k))
	}
	return l
}

// made is a tree of the words of s, ends of lines and all: each is a name, and, behind a =, lines with commas between.
func made(s string) api.Tree {
	if s == "" {
		return nil
	}
	var t api.Tree
	for _, word := range strings.Split(s, " ") {
		f := api.File{Name: word}
		if name, lines, is := strings.Cut(word, "="); is {
			f = api.File{Name: name, Lines: strings.Split(lines, ",")}
		}
		t = append(t, f)
	}
	return t
}

// alone is a tree of one file, a, of those lines; files is a tree of n files, whose names begin with s and rise, of those lines.
func alone(lines ...string) api.Tree { return api.Tree{{Name: "a", Lines: lines}} }

func files(n int, s string, lines ...string) api.Tree {
	var t api.Tree
	for k := range n {
		t = append(t, api.File{Name: fmt.Sprintf("%s%05d", s, k), Lines: lines})
	}
	return t
}

// add, rm and patch are changes.
func add(name string) api.Prim { return api.Prim{Kind: 0, Name: name} }

func rm(name string) api.Prim { return api.Prim{Kind: 1, Name: name} }

func patch(name string, at int, old, now string) api.Prim {
	return api.Prim{Kind: 3, Name: name, H: api.Hunk{At: at, Old: words(old), New: words(now)}}
}

// list is a list of changes.
func list(l ...api.Prim) []api.Prim { return l }

// equal and equalLists hold two against each other without a call of what is tested, or of what it stands on.
func equal(p, q api.Prim) bool {
	return p.Kind == q.Kind && p.Name == q.Name && p.To == q.To && p.H.At == q.H.At &&
		slices.Equal(p.H.Old, q.H.Old) && slices.Equal(p.H.New, q.H.New)
}

func equalLists(a, b []api.Prim) bool { return slices.EqualFunc(a, b, equal) }

// show is all of a tree; two without a file, and two files without lines, are shown the same.
func show(t api.Tree) string {
	s := ""
	for _, f := range t {
		s += fmt.Sprintf("%q %d %q\n", f.Name, len(f.Lines), append([]string{}, f.Lines...))
	}
	return s
}

// short is what is told of a tree, or of a list, in a test's log.
func short(x any) string {
	s := fmt.Sprint(x)
	if len(s) > 400 {
		s = s[:200] + " .. " + s[len(s)-200:]
	}
	return s
}

// copied is a tree once more, copiedList a list.
func copied(t api.Tree) api.Tree {
	t = slices.Clone(t)
	for k := range t {
		t[k].Lines = slices.Clone(t[k].Lines)
	}
	return t
}

func copiedList(l []api.Prim) []api.Prim {
	l = slices.Clone(l)
	for k := range l {
		l[k].H.Old, l[k].H.New = slices.Clone(l[k].H.Old), slices.Clone(l[k].H.New)
	}
	return l
}

// mayName and mayLines are whether a file may be named so, and have those lines; mayBe is whether a tree may be, by what chapter 7 says.
func mayName(s string) bool {
	return 1 <= len(s) && len(s) <= 16 &&
		!strings.ContainsFunc(s, func(r rune) bool { return !strings.ContainsRune("abcdefghijklmnopqrstuvwxyz0123456789.", r) })
}

func mayLines(l []string) bool {
	return len(l) <= 200 && !slices.ContainsFunc(l, func(s string) bool { return len(s) > 80 || strings.Contains(s, "\n") })
}

func mayBe(t api.Tree) bool {
	for k, f := range t {
		if !mayName(f.Name) || !mayLines(f.Lines) || k > 0 && strings.Compare(t[k-1].Name, f.Name) >= 0 {
			return false
		}
	}
	return len(t) <= 30
}

// place is that of a file, or less than 0; linesOf are its lines, none, if there is no such file.
func place(t api.Tree, name string) int {
	return slices.IndexFunc(t, func(f api.File) bool { return f.Name == name })
}

func linesOf(t api.Tree, name string) []string {
	k := place(t, name)
	if k < 0 {
		return nil
	}
	return t[k].Lines
}

// told is what P13.1 tells of two trees that may be, whose files both rise: the one of the lesser name comes first.
func told(from, to api.Tree) []api.Prim {
	var out []api.Prim
	patches := func(name string, a, b []string) {
		for _, h := range hunk.Of(a, b) {
			out = append(out, api.Prim{Kind: 3, Name: name, H: h})
		}
	}
	for len(from)+len(to) > 0 {
		switch {
		case len(from) == 0 || len(to) > 0 && to[0].Name < from[0].Name:
			out = append(out, add(to[0].Name))
			patches(to[0].Name, nil, to[0].Lines)
			to = to[1:]
		case len(to) == 0 || from[0].Name < to[0].Name:
			patches(from[0].Name, from[0].Lines, nil)
			out = append(out, rm(from[0].Name))
			from = from[1:]
		default:
			patches(to[0].Name, from[0].Lines, to[0].Lines)
			from, to = from[1:], to[1:]
		}
	}
	return out
}

// common is how many lines two lists have in common, in order, at most.
func common(a, b []string) int {
	ahead := make([]int, len(b)+1)
	for _, line := range a {
		now := make([]int, len(b)+1)
		for j, other := range b {
			now[j+1] = max(ahead[j+1], now[j])
			if line == other {
				now[j+1] = ahead[j] + 1
			}
		}
		ahead = now
	}
	return ahead[len(b)]
}

// least is how many lines at least are put, or gone, where one tree becomes another one.
func least(a, b api.Tree) int {
	n := 0
	for _, f := range a {
		n += len(f.Lines) - 2*common(f.Lines, linesOf(b, f.Name))
	}
	for _, f := range b {
		n += len(f.Lines)
	}
	return n
}

// check holds both promises, of two trees that may be or not.
func check(t *testing.T, a, b api.Tree) {
	t.Helper()
	l, e := Of(a, b)
	if !mayBe(a) || !mayBe(b) {
		if e != api.ErrArg || len(l) != 0 {
			t.Errorf("%s to %s: %s, error %d", short(a), short(b), short(l), e)
		}
		return
	}
	if want := told(a, b); e != api.OK || !equalLists(l, want) {
		t.Errorf("%s to %s: %s, error %d, not %s", short(a), short(b), short(l), e, short(want))
		return
	}
	if same := show(a) == show(b); same != (len(l) == 0) {
		t.Errorf("%s to %s: the same: %v, but %s", short(a), short(b), same, short(l))
	}
	checkEach(t, a, b, l)
	checkSteps(t, a, b, l)
}

// checkEach holds that each change is one that may be, of a kind that is told, of a file that is another one, and, P2, that no more lines than need be are put, or gone.
func checkEach(t *testing.T, a, b api.Tree, l []api.Prim) {
	t.Helper()
	lines := 0
	for k, p := range l {
		was, is := place(a, p.Name), place(b, p.Name)
		right := p.Kind == 3 || p.Kind == 0 && was < 0 && is >= 0 || p.Kind == 1 && was >= 0 && is < 0
		if !prim.May(p) || prim.Idle(p) || !right {
			t.Errorf("%s to %s: change %d of %s may not be", short(a), short(b), k, short(l))
		}
		if was >= 0 && is >= 0 && slices.Equal(a[was].Lines, b[is].Lines) {
			t.Errorf("%s to %s: change %d of %s is of a file that stays", short(a), short(b), k, short(l))
		}
		if k > 0 && l[k-1].Name > p.Name {
			t.Errorf("%s to %s: the names of %s do not rise", short(a), short(b), short(l))
		}
		lines += len(p.H.Old) + len(p.H.New)
	}
	if want := least(a, b); lines != want {
		t.Errorf("%s to %s: %s are %d lines, not %d", short(a), short(b), short(l), lines, want)
	}
}

// checkSteps holds P13.2: one by one, and all at once, the changes change the first tree into the second one; turned, from the last one on, the second one into the first one.
func checkSteps(t *testing.T, a, b api.Tree, l []api.Prim) {
	t.Helper()
	steps := []api.Tree{a}
	for k, p := range l {
		next, e := prim.Apply(steps[k], p)
		if e != api.OK || show(next) == show(steps[k]) {
			t.Errorf("%s to %s: change %d of %s: %s, error %d", short(a), short(b), k, short(l), short(next), e)
		}
		steps = append(steps, next)
	}
	if got := steps[len(l)]; show(got) != show(b) {
		t.Errorf("%s to %s: %s make %s", short(a), short(b), short(l), short(got))
	}
	for k, p := range slices.Backward(l) {
		if back, e := prim.Apply(steps[k+1], prim.Turn(p)); e != api.OK || show(back) != show(steps[k]) {
			t.Errorf("%s to %s: change %d of %s turned: %s, error %d", short(a), short(b), k, short(l), short(back), e)
		}
	}
	if got, e := flow.Apply(a, l); e != api.OK || !tree.Same(got, b) {
		t.Errorf("%s to %s: %s make at once %s, error %d", short(a), short(b), short(l), short(got), e)
	}
	if got, e := flow.Apply(b, flow.Turn(l)); e != api.OK || !tree.Same(got, a) {
		t.Errorf("%s to %s: %s turned make %s, error %d", short(a), short(b), short(l), short(got), e)
	}
}

// row is two trees, and what is told of them.
type row struct {
	from, to string
	want     []api.Prim
}

func checkTable(t *testing.T, table []row) {
	t.Helper()
	for _, x := range table {
		a, b := made(x.from), made(x.to)
		if l, e := Of(a, b); e != api.OK || !equalLists(l, x.want) {
			t.Errorf("%s to %s: %v, error %d, not %v", x.from, x.to, l, e, x.want)
		}
		check(t, a, b)
		check(t, b, a)
	}
}

// P13.1: whole files, the chapter's example first.
func TestFiles(t *testing.T) {
	checkTable(t, []row{
		{"a=x", "b=y", list(patch("a", 0, "x", ""), rm("a"), add("b"), patch("b", 0, "", "y"))},
		{"b=y", "a=x", list(add("a"), patch("a", 0, "", "x"), patch("b", 0, "y", ""), rm("b"))},
		// One is new: with lines, and without.
		{"", "a", list(add("a"))},
		{"", "a=x", list(add("a"), patch("a", 0, "", "x"))},
		{"", "a=x,y,z", list(add("a"), patch("a", 0, "", "x y z"))},
		{"", "a=x b c=y", list(add("a"), patch("a", 0, "", "x"), add("b"), add("c"), patch("c", 0, "", "y"))},
		// One is gone: with lines, and without.
		{"a", "", list(rm("a"))},
		{"a=x", "", list(patch("a", 0, "x", ""), rm("a"))},
		{"a=x,y,z", "", list(patch("a", 0, "x y z", ""), rm("a"))},
		{"a=x b c=y", "", list(patch("a", 0, "x", ""), rm("a"), rm("b"), patch("c", 0, "y", ""), rm("c"))},
		// One stays: alone, and beside others.
		{"a", "a", nil},
		{"a=x,y", "a=x,y", nil},
		{"a=x b=y c", "a=x b=y c", nil},
		{"a=x b=y", "a=x c=y", list(patch("b", 0, "y", ""), rm("b"), add("c"), patch("c", 0, "", "y"))},
		{"a=x b=y", "a=z b=y", list(patch("a", 0, "x", "z"))},
		// One has its first line, or no line any more: it is there still.
		{"a", "a=x", list(patch("a", 0, "", "x"))},
		{"a=x", "a", list(patch("a", 0, "x", ""))},
		{"a=x b", "b=x", list(patch("a", 0, "x", ""), rm("a"), patch("b", 0, "", "x"))},
		// One goes, and one with the same lines comes: that is no move.
		{"a", "b", list(rm("a"), add("b"))},
		{"b", "a", list(add("a"), rm("b"))},
		{"a=x,y", "b=x,y", list(patch("a", 0, "x y", ""), rm("a"), add("b"), patch("b", 0, "", "x y"))},
		{"a=x b=y", "a=y b=x", list(patch("a", 0, "x", "y"), patch("b", 0, "y", "x"))},
	})
	// Lines without a byte are lines, too.
	checkTable(t, []row{
		{"", "a=", list(add("a"), api.Prim{Kind: 3, Name: "a", H: api.Hunk{New: []string{""}}})},
		{"a=", "a", list(api.Prim{Kind: 3, Name: "a", H: api.Hunk{Old: []string{""}}})},
		{"a=", "a=,", list(api.Prim{Kind: 3, Name: "a", H: api.Hunk{At: 1, New: []string{""}}})},
	})
}

// P13.1: names rise, wherever those of one tree stand beside those of the other one.
func TestOrder(t *testing.T) {
	checkTable(t, []row{
		// All of one ahead of all of the other one, and behind them.
		{"a b", "c d", list(rm("a"), rm("b"), add("c"), add("d"))},
		{"c d", "a b", list(add("a"), add("b"), rm("c"), rm("d"))},
		// Between.
		{"a d", "b c", list(rm("a"), add("b"), add("c"), rm("d"))},
		{"b c", "a d", list(add("a"), rm("b"), rm("c"), add("d"))},
		{"a c e", "b d f", list(rm("a"), add("b"), rm("c"), add("d"), rm("e"), add("f"))},
		{"b d f", "a c e", list(add("a"), rm("b"), add("c"), rm("d"), add("e"), rm("f"))},
		// Ahead of those that both have, between them, behind them.
		{"b d", "a b d", list(add("a"))},
		{"b d", "b c d", list(add("c"))},
		{"b d", "b d e", list(add("e"))},
		{"a b d", "b d", list(rm("a"))},
		{"b c d", "b d", list(rm("c"))},
		{"b d e", "b d", list(rm("e"))},
		{"a=x b=x c=x d=x", "b=y c=x d=x,z e=x", list(patch("a", 0, "x", ""), rm("a"), patch("b", 0, "x", "y"), patch("d", 1, "", "z"), add("e"), patch("e", 0, "", "x"))},
		// A name that begins another one is less.
		{"a", "ab", list(rm("a"), add("ab"))},
		{"ab", "a", list(add("a"), rm("ab"))},
		{"ab=x", "a ab=y abc", list(add("a"), patch("ab", 0, "x", "y"), add("abc"))},
		{"a abc", "ab ac", list(rm("a"), add("ab"), rm("abc"), add("ac"))},
		{"b", "aaaaaaaaaaaaaaa aaaaaaaaaaaaaaaa", list(add("aaaaaaaaaaaaaaa"), add("aaaaaaaaaaaaaaaa"), rm("b"))},
		// Byte by byte, not by numbers or by length.
		{"10 9", ". 0 9", list(add("."), add("0"), rm("10"))},
		{"a.b aab", "a0b", list(rm("a.b"), add("a0b"), rm("aab"))},
		{"2 z", "10 a", list(add("10"), rm("2"), add("a"), rm("z"))},
	})
}

// P13.1: lines of a file that stays.
func TestLines(t *testing.T) {
	checkTable(t, []row{
		// Put, gone, others: at the beginning, in the middle, at the end.
		{"a=p,q,r", "a=x,p,q,r", list(patch("a", 0, "", "x"))},
		{"a=p,q,r", "a=p,x,y,q,r", list(patch("a", 1, "", "x y"))},
		{"a=p,q,r", "a=p,q,r,x", list(patch("a", 3, "", "x"))},
		{"a=p,q,r", "a=q,r", list(patch("a", 0, "p", ""))},
		{"a=p,q,r", "a=p,r", list(patch("a", 1, "q", ""))},
		{"a=p,q,r", "a=p", list(patch("a", 1, "q r", ""))},
		{"a=p,q,r", "a=x,q,r", list(patch("a", 0, "p", "x"))},
		{"a=p,q,r", "a=p,x,y,r", list(patch("a", 1, "q", "x y"))},
		{"a=p,q,r", "a=p,x", list(patch("a", 1, "q r", "x"))},
		// All.
		{"a=p,q,r", "a=x,y", list(patch("a", 0, "p q r", "x y"))},
		{"a=p,q,r", "a", list(patch("a", 0, "p q r", ""))},
		// Several places of one file: each as the ones ahead have left it.
		{"a=p,q,r", "a=x,y,p,r", list(patch("a", 0, "", "x y"), patch("a", 3, "q", ""))},
		{"a=p,q,r", "a=q,r,x", list(patch("a", 0, "p", ""), patch("a", 2, "", "x"))},
		{"a=p,q,r,s,t", "a=p,r,t", list(patch("a", 1, "q", ""), patch("a", 2, "s", ""))},
		{"a=p,q,r,s", "a=x,y,q,s,z", list(patch("a", 0, "p", "x y"), patch("a", 3, "r", ""), patch("a", 4, "", "z"))},
		{"a=p,q", "a=q,p", list(patch("a", 0, "p", ""), patch("a", 1, "", "p"))},
		{"a=p,p", "a=p", list(patch("a", 1, "p", ""))},
		// Of several files: those of one do not move those of the next.
		{"a=p,q b=p,q", "a=x,y,z,p b=x,y,z,p", list(patch("a", 0, "", "x y z"), patch("a", 4, "q", ""), patch("b", 0, "", "x y z"), patch("b", 4, "q", ""))},
		{"a=p b=q c=r", "a=p,x c=r,y", list(patch("a", 1, "", "x"), patch("b", 0, "q", ""), rm("b"), patch("c", 1, "", "y"))},
	})
}

// P13.1, R6: no file, no lines, nil and empty.
func TestNothing(t *testing.T) {
	for _, none := range []api.Tree{nil, {}, make(api.Tree, 0, 3)} {
		for _, other := range []api.Tree{nil, {}} {
			if l, e := Of(none, other); len(l) != 0 || e != api.OK {
				t.Errorf("nothing to nothing: %v, error %d", l, e)
			}
		}
		for _, noLines := range [][]string{nil, {}} {
			x := alone(noLines...)
			x[0].Lines = noLines
			if l, e := Of(none, x); !equalLists(l, list(add("a"))) || e != api.OK {
				t.Errorf("nothing to %#v: %v, error %d", x, l, e)
			}
			if l, e := Of(x, none); !equalLists(l, list(rm("a"))) || e != api.OK {
				t.Errorf("%#v to nothing: %v, error %d", x, l, e)
			}
			for _, same := range []api.Tree{{{Name: "a"}}, {{Name: "a", Lines: []string{}}}} {
				if l, e := Of(x, same); len(l) != 0 || e != api.OK {
					t.Errorf("%#v to %#v: %v, error %d", x, same, l, e)
				}
			}
		}
		check(t, none, made("a=x b"))
		check(t, made("a=x b"), none)
	}
}

// lists are all lists of at most n of the lines; trees are all trees of some of the names, that rise, each with one of the lists.
func lists(n int, lines ...string) [][]string {
	out := [][]string{nil}
	for k := 0; k < len(out) && len(out[k]) < n; k++ {
		for _, line := range lines {
			out = append(out, append(slices.Clone(out[k]), line))
		}
	}
	return out
}

func trees(names []string, lists [][]string) []api.Tree {
	out := []api.Tree{nil}
	for _, name := range names {
		for _, t := range slices.Clone(out) {
			for _, l := range lists {
				out = append(out, append(slices.Clone(t), api.File{Name: name, Lines: l}))
			}
		}
	}
	return out
}

// P13.1, P13.2: all pairs of small trees.
func TestAllSmallTrees(t *testing.T) {
	for _, all := range [][]api.Tree{
		trees(words("a ab b"), lists(1, "x", "y")),
		trees(words("a b"), lists(2, "x", "y")),
		trees(words("a"), lists(5, "x", "y")),
		trees(words("0 a aa b z"), [][]string{nil}),
		trees(words("a b c d"), [][]string{nil, words("x")}),
	} {
		for _, a := range all {
			for _, b := range all {
				check(t, a, b)
			}
			if t.Failed() {
				return
			}
		}
	}
}

// P13.2: what is new from one tree to the next, and from there to the one behind it, changes the first one into the last one.
func TestOneBehindTheOther(t *testing.T) {
	all := trees(words("a b"), lists(1, "x", "y"))
	for _, a := range all {
		for _, b := range all {
			for _, c := range all {
				l, _ := Of(a, b)
				m, _ := Of(b, c)
				if got, e := flow.Apply(a, slices.Concat(l, m)); e != api.OK || show(got) != show(c) {
					t.Fatalf("%v, %v, %v: %v, error %d", a, b, c, got, e)
				}
			}
		}
	}
}

// P13.1, P13.2, P2: files of 200 lines, of which all, some and none are the same.
func TestFullFiles(t *testing.T) {
	full := numbered(200, "l")
	some := slices.Clone(full)
	for k := 0; k < 200; k += 3 {
		some[k] = "x"
	}
	back := slices.Clone(full)
	slices.Reverse(back)
	all := [][]string{
		nil, full, some, back, numbered(200, "m"), many(200, "x"), many(200, ""), many(200, of(80, "x")),
		slices.Concat(full[1:], full[:1]), slices.Concat(full[100:], full[:100]), full[:199], full[1:], full[:1], full[199:], full[50:150],
		slices.Concat(full[:1], numbered(199, "m")), slices.Concat(numbered(199, "n"), full[:1]), slices.Concat(full[:100], many(100, "x")),
	}
	for _, l := range all {
		for _, m := range all {
			check(t, alone(l...), alone(m...))
		}
		check(t, nil, alone(l...))
		check(t, alone(l...), nil)
		check(t, alone(l...), api.Tree{{Name: "b", Lines: l}})
	}
	for _, x := range []struct {
		a, b []string
		want int
	}{{full, full, 0}, {full, numbered(200, "m"), 1}, {full, some, 67}, {many(200, "x"), some, 67}, {full, nil, 1}} {
		if l, e := Of(alone(x.a...), alone(x.b...)); len(l) != x.want || e != api.OK {
			t.Errorf("%s to %s: %d changes, error %d", short(x.a), short(x.b), len(l), e)
		}
	}
	// The lines that are put stand ahead of those that are gone: these are found behind what a file may have.
	l, e := Of(alone(slices.Concat(full[:1], numbered(199, "m"))...), alone(slices.Concat(numbered(199, "n"), full[:1])...))
	if e != api.OK || len(l) != 2 || l[0].H.At != 0 || len(l[0].H.New) != 199 || l[1].H.At != 200 || len(l[1].H.Old) != 199 {
		t.Errorf("%s, error %d", short(l), e)
	}
}

// P13.1, P13.2: trees of 30 files, and others of 30, and what is between them.
func TestFullTrees(t *testing.T) {
	full := numbered(200, "l")
	between := files(60, "f", "x", "y")
	var even, odd api.Tree
	for k, f := range between {
		if k%2 == 0 {
			even = append(even, f)
		} else {
			odd = append(odd, f)
		}
	}
	all := []api.Tree{
		nil, files(30, "f"), files(30, "f", "x"), files(30, "f", "x", "y"), files(30, "g", "x"), files(29, "f", "x"), files(30, "f", "x")[1:], files(1, "f", "x"),
		even, odd, files(30, "f", full[:50]...),
	}
	for _, a := range all {
		for _, b := range all {
			check(t, a, b)
		}
	}
	check(t, files(30, "f", full...), files(30, "f", full[50:150]...))
	l, e := Of(even, odd)
	if e != api.OK || len(l) != 120 || !equal(l[0], patch("f00000", 0, "x y", "")) || !equal(l[1], rm("f00000")) || !equal(l[2], add("f00001")) || !equal(l[119], patch("f00059", 0, "", "x y")) {
		t.Errorf("%s, error %d", short(l), e)
	}
	// No more are told than need be, but more than a patch may have.
	if l, e := Of(files(30, "a", full...), files(30, "b", full...)); e != api.OK || len(l) != 120 {
		t.Errorf("%d changes, error %d", len(l), e)
	}
	var thinned []string
	for k := 0; k < 200; k += 2 {
		thinned = append(thinned, full[k])
	}
	if l, e := Of(files(30, "f", full...), files(30, "f", thinned...)); e != api.OK || len(l) != 3000 {
		t.Errorf("%d changes, error %d", len(l), e)
	}
}

// wrong are trees that may not be: each for one thing alone, or for more.
func wrong() []api.Tree {
	long := of(81, "x")
	out := []api.Tree{
		// Names that do not rise, or come twice.
		made("b a"), made("b a c"), made("a c b"), made("ab a"), made("a 9"), made("9 10"), made("aa a"), made("b=x a=y"),
		made("a a"), made("a=x a=x"), made("a=x a=y"), made("a b b"), made("a a b"), made("a b a"),
		// Names that may not be: the only one, the first one, the last one, and one between.
		made("A"), made("A a"), made("a B b"), made("a b c-"), made("a/b"), made("é"), made("a\xff"), made("a\n"), made("a\x00"), made("a_b"),
		{{}}, {{Lines: words("x")}}, {{}, {Name: "a"}}, {{Name: "a b"}}, {{Name: " "}}, {{Name: "a"}, {}},
		made(of(17, "a")), made("a " + of(17, "b")), made(of(1000, "a")),
		// Lines that may not be: of the first file, and the last one.
		alone("\n"), alone("x\n"), alone("x\ny"), alone("x", "y", "z\n"), alone(long), alone("x", long, "y"), alone(of(41, "é")),
		{{Name: "a", Lines: words("x")}, {Name: "b", Lines: []string{"\n"}}}, {{Name: "a", Lines: []string{long}}, {Name: "b"}},
		// Too many lines.
		alone(many(201, "x")...), alone(many(201, "")...), {{Name: "a", Lines: many(200, "x")}, {Name: "b", Lines: many(201, "x")}},
		// Too many files.
		files(31, "f"), files(31, "f", "x"), files(32, "f"), files(60, "f"), files(31, "F"),
	}
	for _, k := range []int{0, 1, 15, 28, 29} {
		one, other := files(30, "f", "x"), files(30, "f", "x")
		one[k].Name = "A"
		other[k].Lines = many(201, "x")
		out = append(out, one, other)
	}
	return out
}

// fair are trees that may be.
func fair() []api.Tree {
	return []api.Tree{
		nil, {}, made("a"), made("a=x"), made("a=x,y b c=z"), made("b=x ba=x"), made(of(16, "z")), alone(of(80, "x")), alone(of(40, "é")), alone("\x00\r\xff", ""),
		alone(many(200, "x")...), files(30, "f"), files(30, "f", "x"), files(30, "g", many(200, "y")...),
	}
}

// P13.1, R1, R2, R4: a tree that may not be, as the first one, as the second one, as both; no change is told.
func TestErrArg(t *testing.T) {
	bad := func(a, b api.Tree) {
		t.Helper()
		if l, e := Of(a, b); e != api.ErrArg || len(l) != 0 {
			t.Errorf("%s to %s: %s, error %d", short(a), short(b), short(l), e)
		}
	}
	good, others := fair(), wrong()
	for _, x := range others {
		for _, y := range good {
			bad(x, y)
			bad(y, x)
		}
		for _, y := range others {
			bad(x, y)
		}
		// Both the same: there would be nothing to tell.
		bad(x, copied(x))
	}
	for _, x := range good {
		for _, y := range good {
			check(t, x, y)
		}
	}
	if t.Failed() {
		// What is not held against the limits would go through the next ones for too long.
		return
	}
	// Far beyond the limits.
	far := []api.Tree{files(1<<16, "f"), alone(many(1<<20, "x")...), alone(of(1<<20, "x")), made(of(1<<20, "a"))}
	for _, x := range far {
		bad(x, nil)
		bad(made("a=x"), x)
		for _, y := range far {
			bad(x, y)
		}
	}
}

// P13.1: just at the limits.
func TestLimits(t *testing.T) {
	y := made("a=y b")
	for n := range 40 {
		check(t, files(n, "f", "x"), y)
		check(t, y, files(n, "f", "x"))
		if l, e := Of(nil, files(n, "f")); (e == api.OK) != (n <= 30) || n <= 30 && len(l) != n {
			t.Errorf("%d files: %d changes, error %d", n, len(l), e)
		}
	}
	for n := 190; n < 210; n++ {
		check(t, alone(many(n, "x")...), y)
		check(t, y, alone(numbered(n, "x")...))
		if _, e := Of(nil, alone(many(n, "x")...)); (e == api.OK) != (n <= 200) {
			t.Errorf("%d lines: error %d", n, e)
		}
	}
	for n := range 100 {
		check(t, alone(of(n, "x")), y)
		check(t, y, alone(of(n, "x")))
		if _, e := Of(nil, alone(of(n, "x"))); (e == api.OK) != (n <= 80) {
			t.Errorf("a line of %d bytes: error %d", n, e)
		}
		check(t, made(of(n, "a")), y)
		check(t, y, api.Tree{{Name: of(n, "a")}})
		if _, e := Of(api.Tree{{Name: of(n, "a")}}, nil); (e == api.OK) != (1 <= n && n <= 16) {
			t.Errorf("a name of %d bytes: error %d", n, e)
		}
	}
	for c := range 256 {
		one := string([]byte{byte(c)})
		may := 'a' <= c && c <= 'z' || '0' <= c && c <= '9' || c == '.'
		if l, e := Of(nil, api.Tree{{Name: one}}); (e == api.OK) != may || may && !equalLists(l, list(add(one))) {
			t.Errorf("a file named by the byte %d: %v, error %d", c, l, e)
		}
		if l, e := Of(alone(), alone(one)); (e == api.OK) != (c != 10) || c != 10 && (len(l) != 1 || !slices.Equal(l[0].H.New, []string{one})) {
			t.Errorf("a line of the byte %d: %v, error %d", c, l, e)
		}
	}
}

// chosen is a tree that may be, of at most n files of at most so many lines, as next chooses it: a number from 0 on, below the one that it is given.
func chosen(next func(int) int, n, lines int) api.Tree {
	var t api.Tree
	for k := range n + n/2 {
		if len(t) == n || next(3) == 0 {
			continue
		}
		f := api.File{Name: fmt.Sprintf("f%02d", k)}
		for range next(lines + 1) {
			f.Lines = append(f.Lines, []string{"x", "y", "z", "", "\x00", "u v"}[next(6)])
		}
		t = append(t, f)
	}
	return t
}

// edited is a tree in which some files are gone, some are others, in some of their lines, and some are named otherwise.
func edited(next func(int) int, t api.Tree) api.Tree {
	var out api.Tree
	for _, f := range copied(t) {
		switch next(6) {
		case 0:
			continue
		case 1:
			f.Name += "a"
		case 2, 3:
			for range 1 + next(4) {
				k := next(len(f.Lines) + 1)
				f.Lines = slices.Replace(f.Lines, k, min(k+next(3), len(f.Lines)), numbered(next(3), "n")...)
			}
			f.Lines = f.Lines[:min(200, len(f.Lines))]
		}
		out = append(out, f)
	}
	return out
}

// P13.1, P13.2: larger trees, and such as are edited, by a fixed seed.
func TestLarger(t *testing.T) {
	chance := rand.New(rand.NewPCG(13, 1))
	good := 0
	for k := range 180 {
		lines := []int{3, 20, 60, 200}[k%4]
		n := []int{4, 12, 30}[k%3]
		if lines == 200 {
			n = 4
		}
		a := chosen(chance.IntN, n, lines)
		b := edited(chance.IntN, a)
		check(t, a, b)
		check(t, b, a)
		check(t, a, chosen(chance.IntN, n, lines))
		if mayBe(a) && mayBe(b) && show(a) != show(b) {
			good++
		}
		if t.Failed() {
			return
		}
	}
	if good < 150 {
		t.Errorf("only %d are edited", good)
	}
}

// junk is a tree of whatever next chooses, that may be or not.
func junk(next func(int) int) api.Tree {
	bytes := func(n int) string {
		s := ""
		for range next(n) {
			s += string([]byte{"ab.0z\n A\xff\x00"[next(10)]})
		}
		return s
	}
	var t api.Tree
	for range next(5) {
		f := api.File{Name: bytes(4)}
		for range next(4) {
			f.Lines = append(f.Lines, bytes(5))
		}
		t = append(t, f)
	}
	if next(2) == 0 {
		slices.SortFunc(t, func(f, g api.File) int { return strings.Compare(f.Name, g.Name) })
	}
	return t
}

// R1: whatever is given, nothing panics, and what may not be is told.
func TestJunk(t *testing.T) {
	chance := rand.New(rand.NewPCG(13, 2))
	good := 0
	for range 20000 {
		a, b := junk(chance.IntN), junk(chance.IntN)
		check(t, a, b)
		check(t, a, copied(a))
		if mayBe(a) && mayBe(b) && show(a) != show(b) {
			good++
		}
		if t.Failed() {
			return
		}
	}
	if good < 300 {
		t.Errorf("only %d may be", good)
	}
}

// markedLines is l with room behind it, in which a write is seen; marked is a tree with such lines, and such room.
func markedLines(l []string) []string { return append(slices.Clone(l), "mark", "mark")[:len(l)] }

func marked(t api.Tree) api.Tree {
	out := append(copied(t), made("mark=mark mark=mark")...)[:len(t)]
	for k := range out {
		out[k].Lines = markedLines(out[k].Lines)
	}
	return out
}

// unmarked tells whether a tree is still as marked made it of was.
func unmarked(t, was api.Tree) bool {
	if show(t[:len(was)+2]) != show(append(copied(was), made("mark=mark mark=mark")...)) {
		return false
	}
	for k, f := range was {
		if !stillMarked(t[k].Lines, f.Lines) {
			return false
		}
	}
	return true
}

func stillMarked(l, was []string) bool {
	return slices.Equal(l[:len(was)+2], append(slices.Clone(was), "mark", "mark"))
}

// spoilLines, spoil and spoilTree write over what they are given, over the room behind it, and over all lines of it.
func spoilLines(l []string) {
	l = l[:cap(l)]
	for k := range l {
		l[k] = "spoilt"
	}
}

func spoil(l []api.Prim) {
	l = l[:cap(l)]
	for k := range l {
		spoilLines(l[k].H.Old)
		spoilLines(l[k].H.New)
		l[k] = api.Prim{Kind: 9, Name: "spoilt"}
	}
}

func spoilTree(t api.Tree) {
	t = t[:cap(t)]
	for k := range t {
		spoilLines(t[k].Lines)
		t[k] = api.File{Name: "spoilt"}
	}
}

// checkApart holds, of changes that are answered, that none of their lines share memory.
func checkApart(t *testing.T, l []api.Prim) {
	t.Helper()
	was := copiedList(l)
	for k := range l {
		spoilLines(l[k].H.Old)
		was[k].H.Old = many(len(l[k].H.Old), "spoilt")
		if !equalLists(l, was) {
			t.Fatalf("%s: the lines that change %d takes away are shared", short(was), k)
		}
		spoilLines(l[k].H.New)
		was[k].H.New = many(len(l[k].H.New), "spoilt")
		if !equalLists(l, was) {
			t.Fatalf("%s: the lines that change %d puts are shared", short(was), k)
		}
	}
}

// checkOwn holds R3.
func checkOwn(t *testing.T, a, b api.Tree) {
	t.Helper()
	from, to := marked(a), marked(b)
	stays := func(what string) {
		t.Helper()
		if !unmarked(from, a) || !unmarked(to, b) {
			t.Fatalf("%s to %s: %s, what was handed in is now %s and %s", short(a), short(b), what, short(from), short(to))
		}
	}
	one, e := Of(from, to)
	stays("asked")
	want := copiedList(one)
	two, _ := Of(from, to)
	spoil(two)
	stays("the answer spoilt")
	if !equalLists(one, want) {
		t.Errorf("%s to %s: two answers are shared: the first one is then %s", short(a), short(b), short(one))
	}
	spoilTree(from)
	spoilTree(to)
	if now, _ := Of(a, b); !equalLists(one, want) || !equalLists(one, now) {
		t.Errorf("%s to %s: what was answered is then %s, error %d", short(a), short(b), short(one), e)
	}
	checkApart(t, one)
}

// R3: of trees that may be and not.
func TestNothingIsShared(t *testing.T) {
	small := append(trees(words("a b"), lists(2, "x", "y")), made("a=x,y,z,u b=x,y,z,u"), made("a=y,u,v b=x"))
	for _, a := range small {
		for _, b := range small {
			checkOwn(t, a, b)
		}
	}
	for _, a := range fair() {
		for _, b := range append(fair(), wrong()...) {
			checkOwn(t, a, b)
			checkOwn(t, b, a)
		}
	}
	for _, a := range wrong() {
		checkOwn(t, a, a)
	}
	chance := rand.New(rand.NewPCG(13, 3))
	for range 100 {
		a := chosen(chance.IntN, 10, 20)
		checkOwn(t, a, edited(chance.IntN, a))
	}
}

// R3: one list of lines, and pieces of it, that all files of both trees have; one tree, and pieces of it, as both.
func TestOneListManyTimes(t *testing.T) {
	was := words("x y x z")
	l := markedLines(was)
	some := [][]string{l, l[:2], l[1:], l[1:3], l[:0], l[2:2]}
	for _, one := range some {
		for _, other := range some {
			a := api.Tree{{Name: "a", Lines: one}, {Name: "b", Lines: other}, {Name: "c", Lines: one}}
			b := api.Tree{{Name: "b", Lines: one}, {Name: "c", Lines: other}, {Name: "d", Lines: other}}
			check(t, a, b)
			got, _ := Of(a, b)
			checkApart(t, got)
			for k := range a {
				check(t, a, a[k:])
				check(t, a[:k], a[k:])
				check(t, a[k:], a[:k+1])
			}
			if l, e := Of(a, a); len(l) != 0 || e != api.OK {
				t.Errorf("%v twice: %v, error %d", a, l, e)
			}
			if !stillMarked(l, was) {
				t.Fatalf("%v, %v: %q", a, b, l[:len(was)+2])
			}
		}
	}
}

// R5: what is asked does not hang on what was asked ahead of it, nor on what went wrong there.
func TestAskedOnceMore(t *testing.T) {
	ask := func() string {
		l, e := Of(made("a=x,y b=z"), made("a=y,u c=v"))
		m, f := Of(made("a=x"), made("A"))
		n, g := Of(made("a=x"), made("a=x"))
		return fmt.Sprint(l, e, m, f, n, g)
	}
	first := ask()
	if want := "[{3 a  {0 [x] []}} {3 a  {1 [] [u]}} {3 b  {0 [z] []}} {1 b  {0 [] []}} {0 c  {0 [] []}} {3 c  {0 [] [v]}}] 0 [] 1 [] 0"; first != want {
		t.Errorf("%s, not %s", first, want)
	}
	for _, x := range wrong() {
		Of(x, files(30, "g", "x"))
	}
	for _, x := range fair() {
		Of(x, files(30, "g", "x"))
	}
	// However a map is gone through, the answer is the same.
	for range 50 {
		if again := ask(); again != first {
			t.Fatalf("%s, and then %s", first, again)
		}
		check(t, files(30, "g", "x"), files(30, "f", "x"))
	}
}

// Changes are gathered in the order in which they are told, by each gatherer for itself.
func TestGathered(t *testing.T) {
	var one, two gathered
	tellOne, tellTwo := one.tell, two.tell
	tellOne(add("b"))
	tellTwo(rm("c"))
	tellOne(add("a"))
	tellOne(add("a"))
	if !equalLists(one, list(add("b"), add("a"), add("a"))) || !equalLists(two, list(rm("c"))) {
		t.Errorf("%v and %v", one, two)
	}
}

func FuzzOf(f *testing.F) {
	f.Add("a=x", "b=y")
	f.Add("a=x c=p,q,r", "b=y c=p,r,s d")
	f.Add("b a", "a a")
	f.Add("A "+of(17, "a"), "\xff =\n")
	f.Add("a= ab=,,", "")
	f.Fuzz(func(t *testing.T, one, other string) {
		a, b := made(one), made(other)
		check(t, a, b)
		check(t, b, a)
		checkOwn(t, a, b)
		// The same files, in such an order that they may be.
		a, b = rising(a), rising(b)
		check(t, a, b)
		check(t, b, a)
		checkOwn(t, a, b)
	})
}

// rising is a tree of those files that may be, at most 30, by rising names, none twice.
func rising(t api.Tree) api.Tree {
	t = slices.DeleteFunc(copied(t), func(f api.File) bool { return !mayName(f.Name) || !mayLines(f.Lines) })
	slices.SortStableFunc(t, func(f, g api.File) int { return strings.Compare(f.Name, g.Name) })
	t = slices.CompactFunc(t, func(f, g api.File) bool { return f.Name == g.Name })
	return t[:min(30, len(t))]
}
