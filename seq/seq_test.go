package seq

import (
	"math"
	"slices"
	"strings"
	"testing"
)

// words is a list of the words of s.
func words(s string) []string { return strings.Fields(s) }

// lists are all lists of at most n of the lines.
func lists(n int, lines ...string) [][]string {
	all := [][]string{nil}
	level := all
	for range n {
		var next [][]string
		for _, l := range level {
			for _, line := range lines {
				next = append(next, append(slices.Clone(l), line))
			}
		}
		all = append(all, next...)
		level = next
	}
	return all
}

// stands is what At is to tell, line by line.
func stands(l []string, at int, some []string) bool {
	if at < 0 || at > len(l) {
		return false
	}
	rest := l[at:]
	for _, line := range some {
		if len(rest) == 0 || rest[0] != line {
			return false
		}
		rest = rest[1:]
	}
	return true
}

// swapped is what Swap is to tell where old stands, line by line.
func swapped(l []string, at int, old, now []string) []string {
	var out []string
	for i := range at {
		out = append(out, l[i])
	}
	for _, line := range now {
		out = append(out, line)
	}
	for i := at + len(old); i < len(l); i++ {
		out = append(out, l[i])
	}
	return out
}

// shared is the greatest n up to most for which both lists have the same n lines, by the cut.
func shared(a, b []string, most int, cut func([]string, int) []string) int {
	for n := most; n > 0; n-- {
		if slices.Equal(cut(a, n), cut(b, n)) {
			return n
		}
	}
	return 0
}

func first(l []string, n int) []string { return l[:n] }
func last(l []string, n int) []string  { return l[len(l)-n:] }

// checkEnds holds P2.2 and the second half of P2.3.
func checkEnds(t *testing.T, a, b []string) {
	t.Helper()
	most := min(len(a), len(b))
	front := shared(a, b, most, first)
	back := shared(a, b, most-front, last)
	f, k := Front(a, b), Back(a, b)
	if f != front || k != back {
		t.Errorf("%q, %q: front %d, not %d; back %d, not %d", a, b, f, front, k, back)
	}
	if f+k > most {
		t.Errorf("%q, %q: front %d and back %d are above %d", a, b, f, k, most)
	}
	if Front(b, a) != f || Back(b, a) != k {
		t.Errorf("%q, %q: others the other way round", a, b)
	}
}

// checkSwap holds P2.1 and the first half of P2.3.
func checkSwap(t *testing.T, l []string, at int, old, now []string) {
	t.Helper()
	want := stands(l, at, old)
	if got := At(l, at, old); got != want {
		t.Errorf("%q, at %d, %q: At %v", l, at, old, got)
	}
	got, ok := Swap(l, at, old, now)
	if ok != want {
		t.Errorf("%q, at %d, %q to %q: Swap %v", l, at, old, now, ok)
	}
	if !ok {
		if len(got) != 0 {
			t.Errorf("%q, at %d, %q to %q: %q beside false", l, at, old, now, got)
		}
		return
	}
	if !slices.Equal(got, swapped(l, at, old, now)) {
		t.Errorf("%q, at %d, %q to %q: %q", l, at, old, now, got)
	}
	if back, ok := Swap(got, at, now, old); !ok || !slices.Equal(back, l) {
		t.Errorf("%q, at %d, %q to %q: swapped back %q, %v", l, at, old, now, back, ok)
	}
}

// P2.1: At, at its edges.
func TestAt(t *testing.T) {
	abc := words("a b c")
	for i, x := range []struct {
		l    []string
		at   int
		some []string
		want bool
	}{
		{nil, 0, nil, true},
		{[]string{}, 0, []string{}, true},
		{nil, 1, nil, false},
		{nil, -1, nil, false},
		{nil, 0, words("a"), false},
		{nil, 0, []string{""}, false},
		{abc, 0, nil, true},
		{abc, 3, nil, true},
		{abc, 3, []string{}, true},
		{abc, 4, nil, false},
		{abc, -1, nil, false},
		{abc, 0, abc, true},
		{abc, 0, words("a b"), true},
		{abc, 1, words("b"), true},
		{abc, 1, words("b c"), true},
		{abc, 2, words("c"), true},
		{abc, 1, words("c"), false},
		{abc, 0, words("a c"), false},
		{abc, 0, words("b"), false},
		{abc, 2, words("c d"), false},
		{abc, 3, words("d"), false},
		{abc, 3, []string{""}, false},
		{abc, 0, words("a b c d"), false},
		{abc, -1, words("a"), false},
		{abc, -3, abc, false},
		{abc, 4, words("a"), false},
		{abc, math.MaxInt, nil, false},
		{abc, math.MaxInt, words("a b"), false},
		{abc, math.MinInt, nil, false},
		{abc, math.MinInt, words("a b"), false},
		{[]string{"", ""}, 1, []string{""}, true},
		{[]string{"a\n", "\xff"}, 0, []string{"a\n", "\xff"}, true},
		{words("a"), 0, words("A"), false},
		{[]string{"a"}, 0, []string{"a "}, false},
	} {
		if got := At(x.l, x.at, x.some); got != x.want {
			t.Errorf("%d: %v", i, got)
		}
	}
}

// P2.1: Swap, at its edges.
func TestSwap(t *testing.T) {
	abc := words("a b c")
	for i, x := range []struct {
		l        []string
		at       int
		old, now []string
		want     []string
		ok       bool
	}{
		{abc, 1, words("b"), words("x y"), words("a x y c"), true},
		{abc, 1, words("b"), words("x"), words("a x c"), true},
		{abc, 1, words("b c"), words("x"), words("a x"), true},
		{abc, 0, abc, nil, nil, true},
		{abc, 0, abc, words("x"), words("x"), true},
		{abc, 0, nil, words("x"), words("x a b c"), true},
		{abc, 1, nil, words("x"), words("a x b c"), true},
		{abc, 3, nil, words("x"), words("a b c x"), true},
		{abc, 3, nil, words("x y z w"), words("a b c x y z w"), true},
		{abc, 0, nil, nil, abc, true},
		{abc, 3, []string{}, []string{}, abc, true},
		{abc, 1, words("b"), words("b"), abc, true},
		{abc, 0, words("a"), nil, words("b c"), true},
		{abc, 2, words("c"), nil, words("a b"), true},
		{nil, 0, nil, nil, nil, true},
		{[]string{}, 0, nil, abc, abc, true},
		{nil, 0, words("a"), words("b"), nil, false},
		{nil, 1, nil, words("b"), nil, false},
		{abc, -1, nil, words("x"), nil, false},
		{abc, 4, nil, words("x"), nil, false},
		{abc, 1, words("c"), words("x"), nil, false},
		{abc, 2, words("c d"), words("x"), nil, false},
		{abc, 0, words("a b c d"), nil, nil, false},
		{abc, math.MaxInt, words("a"), words("x"), nil, false},
		{abc, math.MinInt, words("a"), words("x"), nil, false},
	} {
		got, ok := Swap(x.l, x.at, x.old, x.now)
		if !slices.Equal(got, x.want) || ok != x.ok {
			t.Errorf("%d: %q, %v", i, got, ok)
		}
	}
}

// P2.1, P2.3: all short lists, at all places, the ones beside the list too.
func TestSwapOfAllShortLists(t *testing.T) {
	olds := lists(3, "a", "b")
	nows := lists(2, "a", "x")
	for _, l := range lists(4, "a", "b") {
		for at := -2; at <= len(l)+2; at++ {
			for _, old := range olds {
				for _, now := range nows {
					checkSwap(t, l, at, old, now)
				}
			}
		}
	}
}

// P2.1, P2.3: lists that are longer than a file may be, as this layer bounds none.
func TestSwapOfLongLists(t *testing.T) {
	long := slices.Repeat(words("a b c"), 1000)
	many := slices.Repeat([]string{strings.Repeat("x", 200)}, 5000)
	checkSwap(t, long, 1500, long[1500:1600], many)
	checkSwap(t, long, 0, long, many)
	checkSwap(t, long, len(long), nil, many)
	checkSwap(t, long, 0, append(slices.Clone(long), "a"), many)
	checkEnds(t, long, append(slices.Clone(long), many...))
	checkEnds(t, long, append(slices.Clone(many), long...))
}

// P2.2: Front and Back, at their edges.
func TestFrontAndBack(t *testing.T) {
	for i, x := range []struct {
		a, b        []string
		front, back int
	}{
		{nil, nil, 0, 0},
		{nil, []string{}, 0, 0},
		{words("a b c"), nil, 0, 0},
		{words("a b c"), words("a x c"), 1, 1},
		{words("a b c"), words("a b c"), 3, 0},
		{words("a b c"), words("a b"), 2, 0},
		{words("a b c"), words("b c"), 0, 2},
		{words("a b c"), words("a c"), 1, 1},
		{words("a b c"), words("x y"), 0, 0},
		{words("a b c"), words("c b a"), 0, 0},
		{words("a b c"), words("a b x y c"), 2, 1},
		{words("a b c"), words("x b c"), 0, 2},
		{words("a b c"), words("a b x"), 2, 0},
		// Where both could tell of a line, Front does.
		{words("a a"), words("a"), 1, 0},
		{words("a a a"), words("a a"), 2, 0},
		{words("a b a"), words("a"), 1, 0},
		{words("a b a"), words("a a"), 1, 1},
		{words("a b a b a"), words("a b a"), 3, 0},
		{words("a a b a"), words("a a a"), 2, 1},
		{words("x a a"), words("a a"), 0, 2},
		{[]string{""}, []string{"", ""}, 1, 0},
		{[]string{"", "a"}, []string{"a"}, 0, 1},
		{[]string{"a"}, []string{"A"}, 0, 0},
	} {
		if f, k := Front(x.a, x.b), Back(x.a, x.b); f != x.front || k != x.back {
			t.Errorf("%d: front %d, back %d", i, f, k)
		}
	}
}

// P2.2, P2.3: all pairs of short lists.
func TestFrontAndBackOfAllShortLists(t *testing.T) {
	all := lists(6, "a", "b")
	for _, a := range all {
		for _, b := range all {
			checkEnds(t, a, b)
		}
	}
	three := lists(4, "a", "b", "")
	for _, a := range three {
		for _, b := range three {
			checkEnds(t, a, b)
		}
	}
}

// P2.3: what lies between Front and Back, swapped, changes the one list into the other one.
func TestWhatLiesBetween(t *testing.T) {
	all := lists(5, "a", "b")
	for _, a := range all {
		for _, b := range all {
			f, k := Front(a, b), Back(a, b)
			got, ok := Swap(a, f, a[f:len(a)-k], b[f:len(b)-k])
			if !ok || !slices.Equal(got, b) {
				t.Errorf("%q to %q: %q, %v", a, b, got, ok)
			}
		}
	}
}

// roomy is l with room behind it, which is marked, so that a write there is seen.
func roomy(l []string) []string {
	big := append(slices.Clone(l), slices.Repeat([]string{"mark"}, 8)...)
	return big[:len(l)]
}

// whole is whether a list of roomy is l still, and its room marked.
func whole(got, l []string) bool {
	all := got[:len(l)+8]
	return slices.Equal(all[:len(l)], l) && slices.Equal(all[len(l):], slices.Repeat([]string{"mark"}, 8))
}

// R3: what is handed in stays, its room too, and what is answered is the caller's own.
func TestNothingIsShared(t *testing.T) {
	olds := lists(2, "a", "b")
	nows := lists(2, "x", "y")
	for _, l := range lists(3, "a", "b") {
		for at := -1; at <= len(l)+1; at++ {
			for _, old := range olds {
				for _, now := range nows {
					checkOwn(t, l, at, old, now)
				}
			}
		}
	}
}

func checkOwn(t *testing.T, l []string, at int, old, now []string) {
	t.Helper()
	l2, old2, now2 := roomy(l), roomy(old), roomy(now)
	stay := func(when string) {
		t.Helper()
		if !whole(l2, l) || !whole(old2, old) || !whole(now2, now) {
			t.Errorf("%q, at %d, %q to %q: changed by %s", l, at, old, now, when)
		}
	}
	At(l2, at, old2)
	stay("At")
	Front(l2, now2)
	Back(l2, now2)
	stay("Front and Back")
	got, ok := Swap(l2, at, old2, now2)
	stay("Swap")
	other, _ := Swap(l2, at, old2, now2)
	for i := range got[:cap(got)] {
		got[:cap(got)][i] = "mine"
	}
	stay("what was answered")
	if ok && !slices.Equal(other, swapped(l, at, old, now)) {
		t.Errorf("%q, at %d, %q to %q: two answers share", l, at, old, now)
	}
	kept := slices.Clone(other)
	for _, in := range [][]string{l2, old2, now2} {
		for i := range in[:cap(in)] {
			in[:cap(in)][i] = "later"
		}
	}
	if !slices.Equal(other, kept) {
		t.Errorf("%q, at %d, %q to %q: what was answered changed", l, at, old, now)
	}
}

// R3: one list handed in as several arguments.
func TestTheSameListTwice(t *testing.T) {
	l := roomy(words("a b c"))
	for _, at := range []int{0, 3} {
		got, ok := Swap(l, at, l[at:], l)
		if !ok || !slices.Equal(got, swapped(words("a b c"), at, l[at:], words("a b c"))) {
			t.Errorf("at %d: %q, %v", at, got, ok)
		}
	}
	if Front(l, l) != 3 || Back(l, l) != 0 || !At(l, 0, l) || At(l, 1, l) {
		t.Error("a list and itself")
	}
	if !whole(l, words("a b c")) {
		t.Errorf("changed: %q", l)
	}
}

func FuzzSeq(f *testing.F) {
	f.Add("a b c", 1, "b", "x y")
	f.Add("a b c", 3, "", "d")
	f.Add("a b a", -1, "a", "a a")
	f.Add("", math.MaxInt, "a", "")
	f.Fuzz(func(t *testing.T, l string, at int, old, now string) {
		checkSwap(t, words(l), at, words(old), words(now))
		checkEnds(t, words(l), words(now))
		if n := len(words(l)); n > 0 && at >= 0 {
			checkSwap(t, words(l), at%n, words(l)[at%n:], words(now))
		}
	})
}
