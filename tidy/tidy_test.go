package tidy

import (
	"fmt"
	"math"
	"math/rand/v2"
	"slices"
	"strings"
	"testing"

	"quiltmaker/api"
	"quiltmaker/flow"
	"quiltmaker/prim"
)

// words is a list of the words of s.
func words(s string) []string { return strings.Fields(s) }

// many is a list of n lines s; numbered are n lines, no two of which are the same.
func many(n int, s string) []string { return slices.Repeat([]string{s}, n) }

func numbered(n int) []string {
	var l []string
	for k := range n {
		l = append(l, fmt.Sprint("l", k))
	}
	return l
}

// file is a file with lines.
func file(name, lines string) api.File { return api.File{Name: name, Lines: words(lines)} }

func hunkOf(at int, old, now string) api.Hunk {
	return api.Hunk{At: at, Old: words(old), New: words(now)}
}

// add, rm, move, patch and set are changes of each kind, as they may be.
func add(name string) api.Prim { return api.Prim{Kind: 0, Name: name} }

func rm(name string) api.Prim { return api.Prim{Kind: 1, Name: name} }

func move(name, to string) api.Prim { return api.Prim{Kind: 2, Name: name, To: to} }

func patch(name string, at int, old, now string) api.Prim {
	return api.Prim{Kind: 3, Name: name, H: hunkOf(at, old, now)}
}

func set(name, old, now string) api.Prim {
	return api.Prim{Kind: 4, Name: name, H: hunkOf(0, old, now)}
}

// to is p with another To, with is p with another H, at is p with another At.
func to(p api.Prim, name string) api.Prim {
	p.To = name
	return p
}

func with(p api.Prim, h api.Hunk) api.Prim {
	p.H = h
	return p
}

func at(p api.Prim, n int) api.Prim {
	p.H.At = n
	return p
}

// list is a list of changes.
func list(l ...api.Prim) []api.Prim { return l }

// equal, equalLists and equalTrees hold two against each other without a call of what is tested, or of what it stands on.
func equal(p, q api.Prim) bool {
	return p.Kind == q.Kind && p.Name == q.Name && p.To == q.To && p.H.At == q.H.At &&
		slices.Equal(p.H.Old, q.H.Old) && slices.Equal(p.H.New, q.H.New)
}

func equalLists(a, b []api.Prim) bool { return slices.EqualFunc(a, b, equal) }

func equalTrees(a, b api.Tree) bool {
	return slices.EqualFunc(a, b, func(f, g api.File) bool { return f.Name == g.Name && slices.Equal(f.Lines, g.Lines) })
}

// idle is whether a change is one of those that change nothing, by what chapter 8 says.
func idle(p api.Prim) bool {
	return (p.Kind == 3 || p.Kind == 4) && slices.Equal(p.H.Old, p.H.New)
}

// told is what P11.1 tells: what all but the last one are tidied to, and then what the last one does to that.
func told(l []api.Prim) []api.Prim {
	if len(l) == 0 {
		return nil
	}
	ahead, p := told(l[:len(l)-1]), l[len(l)-1]
	switch n := len(ahead); {
	case idle(p):
		return ahead
	case n > 0 && equal(p, prim.Turn(ahead[n-1])):
		return ahead[:n-1]
	}
	return append(slices.Clone(ahead), p)
}

// loose is where the first thing is that P11.2 rules out, and how many changes it is: one that is idle, or two that undo one another; -1, if there is none.
func loose(l []api.Prim) (int, int) {
	for k := range l {
		if idle(l[k]) {
			return k, 1
		}
		if k+1 < len(l) && equal(l[k+1], prim.Turn(l[k])) {
			return k, 2
		}
	}
	return -1, 0
}

// picked is a list out of which such things are taken, one by one, as long as there are any.
func picked(l []api.Prim) []api.Prim {
	l = slices.Clone(l)
	for k, n := loose(l); k >= 0; k, n = loose(l) {
		l = slices.Delete(l, k, k+n)
	}
	return l
}

// checkTidy holds P11.1 and P11.2 as they are told, and of P11.3 that what is tidied is tight, and stays, and that just what is tight stays.
func checkTidy(t *testing.T, l []api.Prim) []api.Prim {
	t.Helper()
	got := Tidy(l)
	if want := told(l); !equalLists(got, want) {
		t.Errorf("%v: tidied %v, not %v", l, got, want)
	}
	if want := picked(l); !equalLists(got, want) {
		t.Errorf("%v: tidied %v, but, one by one, %v", l, got, want)
	}
	k, _ := loose(l)
	if tight := Tight(l); tight != (k < 0) || tight != equalLists(got, l) || tight != (len(got) == len(l)) {
		t.Errorf("%v: tight: %v, and tidied %v", l, tight, got)
	}
	if !Tight(got) {
		t.Errorf("%v: tidied %v, which is not tight", l, got)
	}
	if again := Tidy(got); !equalLists(again, got) {
		t.Errorf("%v: tidied %v, and once more %v", l, got, again)
	}
	return got
}

// checkParts holds that to tidy two parts, or one of them, and then both, is to tidy all, wherever it is cut.
func checkParts(t *testing.T, l []api.Prim) {
	t.Helper()
	want := Tidy(l)
	for k := range len(l) + 1 {
		front, back := Tidy(l[:k]), Tidy(l[k:])
		for _, parts := range [][]api.Prim{slices.Concat(front, back), slices.Concat(front, l[k:]), slices.Concat(l[:k], back)} {
			if got := Tidy(parts); !equalLists(got, want) {
				t.Errorf("%v, cut at %d: %v is tidied %v, not %v", l, k, parts, got, want)
			}
		}
	}
}

// checkTurned holds that a list, and behind it what turns it, or the other way round, leave nothing; and that what is turned is tidied to what turns what is tidied.
func checkTurned(t *testing.T, l []api.Prim) {
	t.Helper()
	turned := flow.Turn(l)
	for _, both := range [][]api.Prim{slices.Concat(l, turned), slices.Concat(turned, l), slices.Concat(Tidy(l), turned), slices.Concat(l, Tidy(turned))} {
		if got := Tidy(both); len(got) != 0 {
			t.Errorf("%v: with what turns it, %v, is tidied %v", l, both, got)
		}
		if len(both) > 0 && Tight(both) {
			t.Errorf("%v: with what turns it, %v, is tight", l, both)
		}
	}
	if got, want := Tidy(turned), flow.Turn(Tidy(l)); !equalLists(got, want) {
		t.Errorf("%v: turned and tidied %v, not %v", l, got, want)
	}
	if Tight(l) != Tight(turned) {
		t.Errorf("%v: tight: %v; turned: %v", l, Tight(l), Tight(turned))
	}
}

// checkTree holds, of P11.3, that where a list changes a tree, the tidied one does so to the same. It tells whether the list does, and is not tight.
func checkTree(t *testing.T, x api.Tree, l []api.Prim) bool {
	t.Helper()
	want, e := flow.Apply(x, l)
	if e != api.OK {
		return false
	}
	tidied := Tidy(l)
	if got, e := flow.Apply(x, tidied); e != api.OK || !equalTrees(got, want) {
		t.Errorf("%v, %v: changed to %v; tidied, by %v: %v, error %d", x, l, want, tidied, got, e)
	}
	return len(tidied) < len(l)
}

// wrong are changes that may not be: each for one thing alone, or for more.
func wrong() []api.Prim {
	return list(
		api.Prim{}, api.Prim{Kind: -1, Name: "a"}, api.Prim{Kind: 5, Name: "a"}, api.Prim{Kind: 5, Name: "a", To: "b", H: hunkOf(3, "x", "y")}, api.Prim{Kind: 6, Name: "a", H: hunkOf(0, "x", "x")},
		api.Prim{Kind: math.MinInt, Name: "a"}, api.Prim{Kind: math.MaxInt, Name: "a", H: hunkOf(0, "x", "y")}, api.Prim{Kind: 3 + 1<<32, Name: "a"},
		add("A"), add(strings.Repeat("a", 17)), to(add("a"), "b"), with(add("a"), hunkOf(0, "", "x")), at(add("a"), 1),
		rm(""), rm("a b"), to(rm("a"), "b"), with(rm("a"), hunkOf(0, "", "x")), at(rm("a"), -1),
		move("a", ""), move("a", "a"), move("", "b"), move("a", "B"), move("a", "\n"), with(move("a", "b"), hunkOf(0, "x", "y")), at(move("a", "b"), 1),
		patch("", 0, "", "x"), to(patch("a", 0, "", "x"), "b"), patch("a", -1, "", "x"), patch("a", 1<<20+1, "", "x"), patch("a", math.MinInt, "x", ""), patch("a", math.MaxInt, "x", "y z"),
		with(patch("a", 0, "", ""), api.Hunk{Old: []string{"\n"}}), with(patch("b", 0, "", ""), api.Hunk{New: []string{strings.Repeat("x", 81)}}), with(patch("b", 5, "", ""), api.Hunk{New: many(201, "x")}),
		set("", "", "x"), to(set("a", "x", "y"), "b"), at(set("a", "x", "y"), 1), with(set("a", "", ""), api.Hunk{Old: many(201, "x")}), with(set("b", "", ""), api.Hunk{New: []string{"x\ny"}}),
	)
}

// fair are changes of each kind that may be, none idle; idles are such that are, some of which may not be.
func fair() []api.Prim {
	return list(
		add("a"), add("b"), rm("a"), rm("b"), move("a", "b"), move("b", "a"), move("b", "c"),
		patch("a", 0, "", "x"), patch("a", 0, "x", ""), patch("a", 2, "", "y z"), patch("a", 2, "y", "z"), patch("b", 0, "x", ""),
		set("a", "x", "y"), set("a", "y", "x"), set("b", "x y", ""), set("c", "", "x y x y"),
	)
}

func idles() []api.Prim {
	return list(
		patch("a", 0, "", ""), patch("a", 7, "x", "x"), patch("b", 1<<20, "x y", "x y"), set("a", "", ""), set("a", "x y z", "x y z"),
		with(patch("a", 3, "", ""), api.Hunk{At: 3, Old: []string{}, New: nil}), with(set("a", "", ""), api.Hunk{Old: []string{""}, New: []string{""}}),
		patch("", 0, "x", "x"), patch("a", -1, "x", "x"), to(patch("a", 0, "x", "x"), "b"), patch("a", math.MaxInt, "", ""),
		at(set("a", "x", "x"), 5), to(set("A", "", ""), "B"), with(set("a", "", ""), api.Hunk{Old: many(201, "x\n"), New: many(201, "x\n")}),
	)
}

// lists are all lists of at most n of some changes.
func lists(n int, some []api.Prim) [][]api.Prim {
	out := [][]api.Prim{nil}
	for k := 0; k < len(out) && len(out[k]) < n; k++ {
		for _, p := range some {
			out = append(out, append(slices.Clone(out[k]), p))
		}
	}
	return out
}

// tidied is a list, and what it is tidied to.
type tidied struct{ l, want []api.Prim }

// checkTable holds each list of a table, and that it is tight just if it stays.
func checkTable(t *testing.T, table []tidied) {
	t.Helper()
	for _, x := range table {
		if got := Tidy(x.l); !equalLists(got, x.want) {
			t.Errorf("%v: tidied %v, not %v", x.l, got, x.want)
		}
		if got := Tight(x.l); got != (len(x.l) == len(x.want)) {
			t.Errorf("%v: tight: %v", x.l, got)
		}
		checkTidy(t, x.l)
		checkParts(t, x.l)
		checkTurned(t, x.l)
	}
}

// P11.1, P11.2, R6: no change, and one.
func TestFew(t *testing.T) {
	checkTable(t, []tidied{{nil, nil}, {list(), nil}, {make([]api.Prim, 0, 3), nil}})
	for _, p := range append(fair(), wrong()...) {
		checkTable(t, []tidied{{list(p), list(p)}})
	}
	for _, p := range idles() {
		checkTable(t, []tidied{{list(p), nil}})
	}
}

// P11.1, P11.2: two and more that undo one another, the chapter's example first.
func TestUndone(t *testing.T) {
	a, b, c, d := add("a"), patch("b", 3, "x", "y z"), move("c", "d"), set("d", "v", "")
	noA, noB, noC, noD := rm("a"), patch("b", 3, "y z", "x"), move("d", "c"), set("d", "", "v")
	checkTable(t, []tidied{
		{list(add("a"), add("b"), rm("b"), rm("a")), nil},
		// Two alone, of each kind, both ways round.
		{list(a, noA), nil}, {list(noA, a), nil},
		{list(b, noB), nil}, {list(noB, b), nil},
		{list(c, noC), nil}, {list(noC, c), nil},
		{list(d, noD), nil}, {list(noD, d), nil},
		// At the beginning, in the middle, at the end.
		{list(a, noA, b, c), list(b, c)},
		{list(d, a, noA, b), list(d, b)},
		{list(d, b, c, noC), list(d, b)},
		// At more than one place.
		{list(a, noA, d, b, noB), list(d)},
		{list(d, a, noA, b, noB), list(d)},
		{list(a, noA, b, noB), nil},
		{list(c, a, noA, d, noB, b, a), list(c, d, a)},
		// Only when those between them have gone.
		{list(a, b, noB, noA), nil},
		{list(a, b, c, noC, noB, noA), nil},
		{list(d, a, b, c, noC, noB, noA, c), list(d, c)},
		{list(a, b, noB, c, noC, noA), nil},
		{list(a, b, noB, noA, c, d, noD, b), list(c, b)},
		{list(a, noA, b, c, noC, d, noD, noB), nil},
		{list(a, b, c, noC, noB, d), list(a, d)},
		// One that stays is between them.
		{list(a, b, noA), list(a, b, noA)},
		{list(a, b, noA, noB), list(a, b, noA, noB)},
		{list(a, b, c, noB, noC, noA), list(a, b, c, noB, noC, noA)},
		{list(a, b, c, noC, noA), list(a, b, noA)},
		{list(a, c, b, noB, b, noC, noA), list(a, c, b, noC, noA)},
		{list(a, d, noD, b, noA), list(a, b, noA)},
		// To and fro, and once more.
		{list(a, noA, a), list(a)},
		{list(noA, a, noA), list(noA)},
		{list(b, noB, b), list(b)},
		{list(a, noA, a, noA), nil},
		{list(c, noC, c, noC), nil},
		{list(d, noD, d, noD, d), list(d)},
		{list(b, a, noA, a, noB), list(b, a, noB)},
		{list(b, a, noA, a, noA, noB), nil},
		// The same one twice undoes nothing.
		{list(a, a), list(a, a)},
		{list(b, b), list(b, b)},
		{list(c, c), list(c, c)},
		{list(d, d), list(d, d)},
		{list(a, a, noA), list(a)},
		{list(a, noA, noA), list(noA)},
		{list(a, a, noA, noA), nil},
		{list(a, a, noA, noA, noA, a, a), list(a)},
		{list(c, c, noC, d), list(c, d)},
		// What could be undone is ahead of the beginning.
		{list(noA, noB, b, b, a), list(noA, b, a)},
	})
}

// P11.1, P11.2: idle ones, wherever they are.
func TestIdle(t *testing.T) {
	a, b, noA, noB := add("a"), patch("b", 3, "x", "y z"), rm("a"), patch("b", 3, "y z", "x")
	for _, i := range idles() {
		checkTable(t, []tidied{
			{list(i, a, b), list(a, b)},
			{list(a, i, b), list(a, b)},
			{list(a, b, i), list(a, b)},
			{list(i, a, i, b, i), list(a, b)},
			{list(i, i), nil},
			{list(i, i, i), nil},
			{list(i, i, a, i, i), list(a)},
			// Between two that undo one another, and ahead of them, and behind.
			{list(a, i, noA), nil},
			{list(a, i, i, noA), nil},
			{list(a, b, i, noB, i, noA), nil},
			{list(i, b, i, noB, i), nil},
			{list(a, i, noA, i, a), list(a)},
			{list(a, i, b, i, noA), list(a, b, noA)},
			{list(b, a, i, noA), list(b)},
			{list(a, i, a), list(a, a)},
		})
		for _, k := range idles() {
			checkTable(t, []tidied{{list(i, k), nil}, {list(a, i, k, noA, b), list(b)}})
		}
	}
	checkTable(t, []tidied{{idles(), nil}})
}

// P11.1: only a Patch and a Set are idle: others with the same lines stay.
func TestSameLinesOfOthers(t *testing.T) {
	for _, n := range []int{-1, 0, 1, 2, 5, 6, math.MinInt, math.MaxInt} {
		for _, h := range []api.Hunk{{}, hunkOf(0, "x", "x"), hunkOf(7, "x y", "x y")} {
			p := api.Prim{Kind: n, Name: "a", H: h}
			checkTable(t, []tidied{{list(p), list(p)}, {list(add("b"), p, rm("b")), list(add("b"), p, rm("b"))}})
		}
	}
	// One that turns to itself undoes itself, and another one stays.
	for _, p := range list(move("a", "a"), api.Prim{Kind: 5, Name: "a"}, api.Prim{Kind: -1}, api.Prim{Kind: 7, Name: "a", H: hunkOf(2, "x", "x")}) {
		checkTable(t, []tidied{{list(p, p), nil}, {list(p, p, p), list(p)}, {list(add("b"), p, p, rm("b")), nil}, {list(p, p, p, p), nil}})
	}
}

// P11.1, P11.2, R1: changes that may not be are held as others are.
func TestWhatMayNotBe(t *testing.T) {
	a, b := add("u"), patch("v", 1, "k", "l")
	for _, p := range wrong() {
		if prim.May(p) {
			t.Errorf("%v may be", p)
		}
		no := prim.Turn(p)
		checkTable(t, []tidied{
			{list(p, no), nil},
			{list(a, p, no), list(a)},
			{list(p, no, a), list(a)},
			{list(a, p, no, prim.Turn(a)), nil},
			{list(a, p, b, no), list(a, p, b, no)},
			{list(p, a, rm("u"), no), nil},
			{list(p, no, p), list(p)},
			{list(p, no, p, no), nil},
			{list(a, p, prim.Turn(a)), list(a, p, prim.Turn(a))},
		})
		for _, q := range append(wrong(), fair()...) {
			checkTidy(t, list(p, q))
			checkTidy(t, list(a, q, p))
			checkTurned(t, list(p, q))
		}
	}
	checkTidy(t, wrong())
	checkTurned(t, wrong())
	checkParts(t, append(wrong(), flow.Turn(wrong()[9:])...))
}

// P11.1, P11.2: changes that differ from what undoes the last one in one thing alone stay.
func TestAlmostUndone(t *testing.T) {
	for _, p := range append(append(fair(), wrong()...), api.Prim{Kind: 3, Name: "a", To: "b", H: hunkOf(5, "x y", "z")}, api.Prim{Kind: 2, Name: "a", To: "b", H: hunkOf(5, "x y", "z")}) {
		no := prim.Turn(p)
		for what, other := range map[string]func(*api.Prim){
			"Kind":      func(q *api.Prim) { q.Kind = (q.Kind + 1) % 5 },
			"Kind less": func(q *api.Prim) { q.Kind-- },
			"Name":      func(q *api.Prim) { q.Name += "c" },
			"To":        func(q *api.Prim) { q.To += "c" },
			"At":        func(q *api.Prim) { q.H.At++ },
			"At less":   func(q *api.Prim) { q.H.At-- },
			"Old":       func(q *api.Prim) { q.H.Old = append(slices.Clone(q.H.Old), "") },
			"Old ahead": func(q *api.Prim) { q.H.Old = append(words("k"), q.H.Old...) },
			"New":       func(q *api.Prim) { q.H.New = append(slices.Clone(q.H.New), "c") },
			"a line": func(q *api.Prim) {
				q.H.Old, q.H.New = slices.Clone(q.H.Old), slices.Clone(q.H.New)
				for k := range q.H.Old[:min(1, len(q.H.Old))] {
					q.H.Old[k] += "c"
				}
				for k := range q.H.New[:min(1, len(q.H.New))] {
					q.H.New[k] += "c"
				}
			},
		} {
			q := no
			other(&q)
			if equal(q, no) || idle(q) {
				continue
			}
			l := list(add("u"), p, q, rm("u"))
			if got := Tidy(l); !equalLists(got, l) || !Tight(l) {
				t.Errorf("%s: %v: tidied %v, tight: %v", what, l, got, Tight(l))
			}
			checkTidy(t, list(p, q))
			checkTidy(t, list(q, p))
		}
	}
	// Not turned, but with names or lines the other way round.
	for _, l := range [][]api.Prim{
		list(move("a", "b"), move("a", "b")), list(move("a", "b"), move("b", "c")), list(move("a", "b"), move("c", "a")),
		list(add("a"), rm("b")), list(add("a"), move("a", "b")), list(patch("a", 0, "", "x"), set("a", "x", "")), list(set("a", "x", "y"), patch("a", 0, "y", "x")),
		list(patch("a", 0, "", "x"), patch("a", 1, "x", "")), list(patch("a", 0, "", "x y"), patch("a", 0, "y x", "")), list(patch("a", 0, "", "x x"), patch("a", 0, "x", "")),
		list(patch("a", 0, "x", "y"), patch("a", 0, "x", "y")), list(patch("a", 0, "", "x"), patch("b", 0, "x", "")), list(patch("a", 0, "", "x"), patch("a", 0, "", "x")),
		list(add("a"), patch("a", 0, "", "x"), rm("a")), list(to(add("a"), "b"), rm("a")), list(at(add("a"), 1), rm("a")), list(with(add("a"), hunkOf(0, "x", "y")), with(rm("a"), hunkOf(0, "y", "x"))),
	} {
		if got := Tidy(l); !equalLists(got, l) || !Tight(l) {
			t.Errorf("%v: tidied %v, tight: %v", l, got, Tight(l))
		}
	}
	// An Add and a Rm undo one another with the same lines, not the other ones.
	checkTable(t, []tidied{{list(with(add("a"), hunkOf(2, "x", "y")), with(rm("a"), hunkOf(2, "x", "y"))), nil}})
	checkTable(t, []tidied{{list(with(move("a", "b"), hunkOf(2, "x", "y")), with(move("b", "a"), hunkOf(2, "x", "y"))), nil}})
}

// P11.2: Tight of longer lists, with one thing alone that is ruled out, in each place.
func TestTight(t *testing.T) {
	l := list(add("u"), patch("u", 0, "", "x"), move("u", "v"), set("v", "x", "y"), add("w"), add("w"))
	if !Tight(l) || !equalLists(Tidy(l), l) {
		t.Errorf("%v: tight: %v, tidied %v", l, Tight(l), Tidy(l))
	}
	for k := range len(l) + 1 {
		for _, i := range idles() {
			if m := slices.Insert(slices.Clone(l), k, i); Tight(m) || !equalLists(Tidy(m), l) {
				t.Errorf("%v: tight: %v, tidied %v", m, Tight(m), Tidy(m))
			}
		}
		for _, p := range append(fair(), wrong()...) {
			if m := slices.Insert(slices.Clone(l), k, p, prim.Turn(p)); Tight(m) || !equalLists(Tidy(m), l) {
				t.Errorf("%v: tight: %v, tidied %v", m, Tight(m), Tidy(m))
			}
		}
		if k < len(l) {
			m := slices.Insert(slices.Clone(l), k+1, prim.Turn(l[k]))
			if want := slices.Delete(slices.Clone(l), k, k+1); Tight(m) || !equalLists(Tidy(m), want) {
				t.Errorf("%v: tight: %v, tidied %v", m, Tight(m), Tidy(m))
			}
		}
	}
	// Only the one right ahead is asked.
	for _, m := range [][]api.Prim{list(add("a"), add("b"), rm("a")), list(add("a"), add("a"), add("b"), rm("a")), list(rm("a"), add("b"), add("c"), add("a"))} {
		if !Tight(m) {
			t.Errorf("%v is not tight", m)
		}
	}
}

// P11.1 to P11.3: all lists of at most four of some changes, some of which undo one another, some idle, some such as may not be.
func TestAllSmall(t *testing.T) {
	some := list(
		add("a"), rm("a"), move("a", "b"), move("b", "a"), patch("a", 0, "", "x"), patch("a", 0, "x", ""), set("a", "x", "y"), set("a", "y", "x"),
		patch("a", 3, "x", "x"), set("b", "", ""), move("a", "a"), api.Prim{Kind: 5, Name: "a", H: hunkOf(0, "x", "x")},
	)
	for _, l := range lists(4, some) {
		checkTidy(t, l)
		checkParts(t, l)
		checkTurned(t, l)
	}
	for _, l := range lists(8, list(add("a"), rm("a"), patch("a", 0, "x", "x"))) {
		checkTidy(t, l)
	}
}

// P11.3: all stories of five of some changes on some trees, and on each of them what does not change it, too.
func TestTreesAllSmall(t *testing.T) {
	some := list(
		add("a"), rm("a"), add("c"), rm("c"), move("a", "b"), move("b", "a"), move("c", "a"), patch("a", 0, "", "x"), patch("a", 0, "x", ""), patch("a", 1, "", "y z"), patch("a", 1, "y z", ""),
		patch("a", 0, "x", "x"), patch("b", 0, "", ""), patch("b", 0, "x", "y"), patch("b", 0, "y", "x"), set("a", "x", "y"), set("a", "y", "x"), set("a", "x", "x"), set("b", "", ""), set("b", "x x", ""), set("b", "", "x x"),
	)
	loose := 0
	var tell func(x, now api.Tree, story []api.Prim)
	tell = func(x, now api.Tree, story []api.Prim) {
		if checkTree(t, x, story) {
			loose++
		}
		for _, p := range some {
			if next, e := prim.Apply(now, p); e == api.OK && len(story) < 5 {
				tell(x, next, append(slices.Clone(story), p))
			}
		}
	}
	for _, x := range []api.Tree{nil, {file("a", "")}, {file("b", "x x")}, {file("a", "x"), file("b", "")}, {file("a", "x y z"), file("b", "x"), file("c", "")}} {
		tell(x, x, nil)
	}
	if loose < 10000 {
		t.Errorf("only %d change a tree, and are not tight", loose)
	}
	// A list that does not change a tree may do so when it is tidied, to what it should be.
	l := list(add("a"), patch("z", 0, "", "x"), patch("z", 0, "x", ""), set("z", "y", "y"))
	if _, e := flow.Apply(nil, l); e == api.OK {
		t.Errorf("%v: no error", l)
	}
	if got, e := flow.Apply(nil, Tidy(l)); e != api.OK || !equalTrees(got, api.Tree{file("a", "")}) {
		t.Errorf("%v: tidied %v, error %d", l, got, e)
	}
}

// fit is a change that fits a tree, as next chooses it: a number from 0 on, below the one that it is given.
func fit(x api.Tree, next func(int) int) api.Prim {
	free := slices.DeleteFunc(words("a b c d e f"), func(s string) bool {
		return slices.ContainsFunc(x, func(f api.File) bool { return f.Name == s })
	})
	what := next(12)
	if len(x) == 0 || what == 0 && len(free) > 0 {
		return add(free[next(len(free))])
	}
	f := x[next(len(x))]
	if what <= 2 && len(free) > 0 {
		return move(f.Name, free[next(len(free))])
	}
	if what == 3 && len(f.Lines) == 0 {
		return rm(f.Name)
	}
	now := numbered(50)[next(50):][:next(3)%2]
	if what == 4 {
		return with(set(f.Name, "", ""), api.Hunk{Old: slices.Clone(f.Lines), New: append(slices.Clone(f.Lines), now...)})
	}
	from := next(len(f.Lines) + 1)
	old := f.Lines[from:][:next(min(3, len(f.Lines)-from+1))]
	return with(patch(f.Name, 0, "", ""), api.Hunk{At: from, Old: slices.Clone(old), New: slices.Clone(now)})
}

// story are n changes, one behind the other, that change a tree; some of them undo what the ones ahead did, from the last one on.
func story(x api.Tree, n int, next func(int) int) []api.Prim {
	var l, open []api.Prim
	for range n {
		p := fit(x, next)
		if back := len(open) - 1; back >= 0 && next(5) < 2 {
			p, open = prim.Turn(open[back]), open[:back]
		} else {
			open = append(open, p)
		}
		y, e := prim.Apply(x, p)
		if e != api.OK {
			break
		}
		l, x = append(l, p), y
	}
	return l
}

// P11.1 to P11.3: longer stories, of a tree with long files.
func TestStories(t *testing.T) {
	chance := rand.New(rand.NewPCG(11, 3))
	start := api.Tree{{Name: "a", Lines: numbered(40)}, {Name: "c", Lines: numbered(30)}, {Name: "e"}}
	loose, far := 0, 0
	for range 20000 {
		l := story(start, chance.IntN(16), chance.IntN)
		got := checkTidy(t, l)
		if checkTree(t, start, l) {
			loose++
		}
		if len(l)-len(got) > 4 {
			far++
		}
		checkParts(t, l)
		checkTurned(t, l)
		if !checkTree(t, start, slices.Concat(l, flow.Turn(l))) && len(l) > 0 {
			t.Errorf("%v: with what turns it, it changes nothing, or is tight", l)
		}
		if t.Failed() {
			return
		}
	}
	if loose < 10000 || far < 3000 {
		t.Errorf("only %d are not tight, %d by far", loose, far)
	}
}

// P11.1, R1: lists of many changes, more than one patch may have.
func TestMany(t *testing.T) {
	var l []api.Prim
	for k := range 3000 {
		l = append(l, patch("a", k, "", "x"), patch("a", k, "y", "y"))
	}
	tight := slices.DeleteFunc(slices.Clone(l), idle)
	for _, x := range []tidied{
		{l, tight}, {tight, tight}, {slices.Concat(l, flow.Turn(l)), nil}, {slices.Concat(flow.Turn(tight), l, l), tight},
		{slices.Concat(l, flow.Turn(l[2000:])), tight[:1000]}, {slices.Repeat(list(add("a"), rm("a")), 5000), nil}, {slices.Repeat(list(add("a"), rm("a"), add("a")), 1000), slices.Repeat(list(add("a")), 1000)},
	} {
		if got := Tidy(x.l); !equalLists(got, x.want) {
			t.Errorf("%d: tidied %d, not %d", len(x.l), len(got), len(x.want))
		}
		if Tight(x.l) != (len(x.l) == len(x.want)) {
			t.Errorf("%d: tight: %v", len(x.l), Tight(x.l))
		}
	}
}

// marked is a list of changes with room behind it, and behind the lines of each, in which a write is seen.
func marked(l []api.Prim) []api.Prim {
	out := append(slices.Clone(l), add("mark"), add("mark"))[:len(l)]
	for k, p := range out {
		out[k].H.Old, out[k].H.New = markedLines(p.H.Old), markedLines(p.H.New)
	}
	return out
}

func markedLines(l []string) []string { return append(slices.Clone(l), "mark", "mark")[:len(l)] }

// unmarked tells whether a list is still as marked made it of was.
func unmarked(l, was []api.Prim) bool {
	room := l[len(l) : len(l)+2]
	return equalLists(l, was) && equal(room[0], add("mark")) && equal(room[1], add("mark")) &&
		!slices.ContainsFunc(l, func(p api.Prim) bool { return !stillMarked(p.H.Old) || !stillMarked(p.H.New) })
}

func stillMarked(l []string) bool { return slices.Equal(l[len(l):len(l)+2], words("mark mark")) }

// spoil writes over a list, and over the room behind it, and over the lines of all that stands in either.
func spoil(l []api.Prim) {
	l = l[:cap(l)]
	for k := range l {
		spoilLines(l[k].H.Old)
		spoilLines(l[k].H.New)
		l[k] = api.Prim{Kind: 9, Name: "spoilt"}
	}
}

func spoilLines(l []string) {
	l = l[:cap(l)]
	for k := range l {
		l[k] = "spoilt"
	}
}

// checkApart holds, of changes that are answered, that none of their lines share memory.
func checkApart(t *testing.T, l []api.Prim) {
	t.Helper()
	var lines, was [][]string
	for _, p := range l {
		lines = append(lines, p.H.Old, p.H.New)
		was = append(was, slices.Clone(p.H.Old), slices.Clone(p.H.New))
	}
	for k, some := range lines {
		spoilLines(some)
		for n := k + 1; n < len(lines); n++ {
			if !slices.Equal(lines[n], was[n]) {
				t.Errorf("lists of lines %d and %d of what is answered, %v, are shared", k, n, l)
			}
		}
	}
}

// checkOwn holds R3: what is handed in stays, its room too, and what is answered shares nothing with that, nor within itself.
func checkOwn(t *testing.T, l []api.Prim) {
	t.Helper()
	in := marked(l)
	stays := func(what string) {
		t.Helper()
		if !unmarked(in, l) {
			t.Fatalf("%v: what was handed in is now %v: %s", l, in, what)
		}
	}
	got := Tidy(in)
	Tight(in)
	stays("changed")
	checkApart(t, got)
	spoil(got)
	stays("shared with what is answered")
	got = Tidy(in)
	second := Tidy(in)
	spoil(second)
	if want := told(l); !equalLists(got, want) {
		t.Errorf("%v: two answers are shared: the first one is then %v", l, got)
	}
	spoil(in)
	if want := told(l); !equalLists(got, want) {
		t.Errorf("%v: what was answered is then %v", l, got)
	}
}

// R3: lists of which some undo one another, some stay, some are idle, some may not be.
func TestNothingIsShared(t *testing.T) {
	some := list(
		add("a"), rm("a"), patch("a", 0, "", "x y"), patch("a", 0, "x y", ""), patch("a", 2, "x", "y z"), patch("a", 2, "x", "x"), set("a", "x", "y z"), set("a", "y z", "x"), set("c", "", ""),
		api.Prim{Kind: 5, Name: "a", H: hunkOf(3, "x y", "z")}, with(add("a"), hunkOf(0, "x", "y")), with(move("c", "d"), api.Hunk{Old: []string{}}), with(patch("b", 0, "", ""), api.Hunk{New: words("x y x y")[1:2]}),
	)
	for _, l := range append(lists(3, some), wrong(), fair(), idles(), slices.Concat(fair(), idles(), wrong(), flow.Turn(wrong()[3:]))) {
		checkOwn(t, l)
	}
}

// R3: one list of lines that all have, pieces of it, and a piece of a list of changes.
func TestOneListManyTimes(t *testing.T) {
	lines := markedLines(words("x y x y"))
	hunks := []api.Hunk{{Old: lines, New: lines[:1]}, {Old: lines[:1], New: lines}, {Old: lines[:2], New: lines[2:]}, {Old: lines[:0], New: lines}, {Old: lines, New: lines[4:]}, {Old: lines[1:3], New: lines[1:2]}, {Old: lines[:0], New: lines[:0]}}
	for _, g := range hunks {
		for _, h := range hunks {
			for _, l := range [][]api.Prim{list(with(patch("a", 0, "", ""), g), with(patch("a", 0, "", ""), h)), list(with(set("a", "", ""), g), with(add("b"), h), with(rm("b"), h)), list(with(add("c"), g), with(move("c", "d"), h), with(patch("a", 0, "", ""), g))} {
				want := told(l)
				got := Tidy(l)
				if !equalLists(got, want) {
					t.Errorf("%v: tidied %v, not %v", l, got, want)
				}
				checkApart(t, got)
				if !slices.Equal(lines[:6], words("x y x y mark mark")) {
					t.Fatalf("%v: %q", l, lines[:6])
				}
			}
		}
	}
	// Pieces of a list that has more behind it: that is not written over.
	l := list(add("a"), add("b"), rm("b"), add("c"), patch("c", 0, "", "x"), patch("c", 0, "x", ""), rm("c"), rm("a"), add("d"))
	was := slices.Clone(l)
	for k := range len(l) + 1 {
		for n := range k + 1 {
			if got := Tidy(l[n:k]); !equalLists(got, told(was[n:k])) || !equalLists(l, was) {
				t.Errorf("%v, from %d to %d: tidied %v, and then %v", was, n, k, got, l)
			}
		}
	}
}

// R5: what is asked does not hang on what was asked ahead of it.
func TestAskedOnceMore(t *testing.T) {
	l := list(add("a"), patch("a", 0, "", "x"), patch("a", 4, "y", "y"), patch("a", 0, "x", ""), move("a", "b"))
	ask := func() string { return fmt.Sprint(Tidy(l), Tight(l), Tight(Tidy(l)), Tidy(nil)) }
	first := ask()
	if want := "[{0 a  {0 [] []}} {2 a b {0 [] []}}] false true []"; first != want {
		t.Errorf("%s, not %s", first, want)
	}
	// A Rm of a undoes nothing of what was tidied ahead.
	Tidy(list(add("a")))
	if got := Tidy(list(rm("a"))); !equalLists(got, list(rm("a"))) {
		t.Errorf("a Rm alone: tidied %v", got)
	}
	Tidy(wrong())
	Tight(idles())
	if again := ask(); again != first {
		t.Errorf("%s, and then %s", first, again)
	}
}

func FuzzTidy(f *testing.F) {
	f.Add([]byte{}, []byte{}, byte(0))
	f.Add([]byte{5, 0, 1, 2, 3, 4, 5, 6, 1, 0, 2}, []byte{0, 1, 1, 0}, byte(40))
	f.Add([]byte{0, 1, 9, 0, 1, 1, 5, 0, 1, 1, 30, 1, 2, 1, 1}, []byte{3, 200, 40, 41, 201, 4}, byte(20))
	f.Add([]byte{200, 17, 3, 255, 1, 90, 0, 0, 0, 0, 0}, []byte{16, 17, 60, 61, 61, 60}, byte(5))
	f.Fuzz(func(t *testing.T, one, other []byte, size byte) {
		start := api.Tree{{Name: "a", Lines: numbered(int(size))}, {Name: "c", Lines: numbered(int(size) / 3)}, {Name: "e"}}
		l := story(start, min(20, len(one)), from(one))
		some := slices.Concat(fair(), idles(), wrong())
		some = slices.Concat(some, flow.Turn(some))
		var m []api.Prim
		for _, b := range other[:min(40, len(other))] {
			m = append(m, some[int(b)%len(some)])
		}
		for _, x := range [][]api.Prim{l, m, slices.Concat(l, m, flow.Turn(m)), slices.Concat(m, flow.Turn(l), l)} {
			checkTidy(t, x)
			checkParts(t, x)
			checkTurned(t, x)
			checkTree(t, start, x)
			checkOwn(t, x)
		}
	})
}

// from chooses by bytes, one by one; when there are none any more, it chooses 0.
func from(b []byte) func(int) int {
	return func(n int) int {
		if len(b) == 0 || n == 0 {
			return 0
		}
		k := int(b[0]) % n
		b = b[1:]
		return k
	}
}
