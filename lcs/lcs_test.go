package lcs

import (
	"iter"
	"slices"
	"strconv"
	"strings"
	"testing"
)

// letters is a list with a line for each byte of s.
func letters(s string) []string {
	var l []string
	for i := range len(s) {
		l = append(l, s[i:i+1])
	}
	return l
}

// texts are all texts of at most n bytes, each one of the alphabet.
func texts(n int, alphabet string) []string {
	all := []string{""}
	for i := 0; i < len(all); i++ {
		if len(all[i]) == n {
			break
		}
		for _, c := range letters(alphabet) {
			all = append(all, all[i]+c)
		}
	}
	return all
}

// told is what the chapter's words say, place by place.
type told struct {
	a, b []string
	have map[[2]int]int
}

// common is what the lists have in common from the places i and j on.
func (w told) common(i, j int) int {
	if i == len(w.a) || j == len(w.b) {
		return 0
	}
	at := [2]int{i, j}
	if n, ok := w.have[at]; ok {
		return n
	}
	if w.a[i] == w.b[j] {
		w.have[at] = 1 + w.common(i+1, j+1)
	} else {
		w.have[at] = max(w.common(i+1, j), w.common(i, j+1))
	}
	return w.have[at]
}

func (w told) pairs() [][2]int {
	var l [][2]int
	i, j := 0, 0
	for i < len(w.a) && j < len(w.b) {
		if w.a[i] == w.b[j] {
			l = append(l, [2]int{i, j})
			i++
			j++
		} else if w.common(i+1, j) >= w.common(i, j+1) {
			i++
		} else {
			j++
		}
	}
	return l
}

// check holds P3.1, P3.2 and the first half of P3.3.
func check(t *testing.T, a, b []string) {
	t.Helper()
	w := told{a, b, map[[2]int]int{}}
	many, l := Many(a, b), Pairs(a, b)
	if want := w.common(0, 0); many != want {
		t.Errorf("%q, %q: many %d, not %d", a, b, many, want)
	}
	if want := w.pairs(); !slices.Equal(l, want) {
		t.Errorf("%q, %q: pairs %v, not %v", a, b, l, want)
	}
	checkPairs(t, a, b, l, many)
}

// checkPairs holds that pairs are many, rise in both lists, and have the same lines.
func checkPairs(t *testing.T, a, b []string, l [][2]int, many int) {
	t.Helper()
	if len(l) != many {
		t.Errorf("%q, %q: %d pairs, many %d", a, b, len(l), many)
	}
	i, j := -1, -1
	for _, p := range l {
		if p[0] <= i || p[1] <= j || p[0] >= len(a) || p[1] >= len(b) {
			t.Errorf("%q, %q: pairs %v do not rise", a, b, l)
			return
		}
		i, j = p[0], p[1]
		if a[i] != b[j] {
			t.Errorf("%q, %q: pair %v of others", a, b, p)
		}
	}
}

// P3.1, P3.2: ordinary lists, and the edges.
func TestManyAndPairs(t *testing.T) {
	for i, x := range []struct {
		a, b []string
		want [][2]int
	}{
		// The chapter's example, both ways round.
		{letters("abcd"), letters("bda"), [][2]int{{1, 0}, {3, 1}}},
		{letters("bda"), letters("abcd"), [][2]int{{0, 1}, {1, 3}}},
		// One line that is another one.
		{letters("abc"), letters("axc"), [][2]int{{0, 0}, {2, 2}}},
		// Nil and empty lists.
		{nil, nil, nil},
		{nil, []string{}, nil},
		{[]string{}, nil, nil},
		{[]string{}, []string{}, nil},
		// One of them is empty.
		{nil, letters("abc"), nil},
		{letters("abc"), nil, nil},
		{[]string{}, []string{""}, nil},
		{[]string{""}, []string{}, nil},
		// The same.
		{letters("a"), letters("a"), [][2]int{{0, 0}}},
		{letters("abc"), letters("abc"), [][2]int{{0, 0}, {1, 1}, {2, 2}}},
		{letters("aba"), letters("aba"), [][2]int{{0, 0}, {1, 1}, {2, 2}}},
		// No line in common.
		{letters("a"), letters("b"), nil},
		{letters("abc"), letters("xyz"), nil},
		{letters("abc"), letters("x"), nil},
		{letters("x"), letters("abc"), nil},
		// One line many times.
		{letters("aa"), letters("a"), [][2]int{{0, 0}}},
		{letters("a"), letters("aa"), [][2]int{{0, 0}}},
		{letters("aaaaa"), letters("aaa"), [][2]int{{0, 0}, {1, 1}, {2, 2}}},
		{letters("aaa"), letters("aaaaa"), [][2]int{{0, 0}, {1, 1}, {2, 2}}},
		{letters("aaa"), letters("baaab"), [][2]int{{0, 1}, {1, 2}, {2, 3}}},
		{letters("aaa"), letters("bbb"), nil},
		// The beginning, the end, a part of the other one, the longer one first and last.
		{letters("abcde"), letters("ab"), [][2]int{{0, 0}, {1, 1}}},
		{letters("ab"), letters("abcde"), [][2]int{{0, 0}, {1, 1}}},
		{letters("abcde"), letters("de"), [][2]int{{3, 0}, {4, 1}}},
		{letters("de"), letters("abcde"), [][2]int{{0, 3}, {1, 4}}},
		{letters("abcde"), letters("bcd"), [][2]int{{1, 0}, {2, 1}, {3, 2}}},
		{letters("bcd"), letters("abcde"), [][2]int{{0, 1}, {1, 2}, {2, 3}}},
		{letters("abcde"), letters("bd"), [][2]int{{1, 0}, {3, 1}}},
		{letters("bd"), letters("abcde"), [][2]int{{0, 1}, {1, 3}}},
		// The first that are the same, not the last ones.
		{letters("xaa"), letters("a"), [][2]int{{1, 0}}},
		{letters("a"), letters("xaa"), [][2]int{{0, 1}}},
		// Lines are the same byte by byte, whatever they are.
		{[]string{"", "a"}, []string{"a", ""}, [][2]int{{1, 0}}},
		{[]string{"a", "", ""}, []string{"", "b", ""}, [][2]int{{1, 0}, {2, 2}}},
		{[]string{"a"}, []string{"A"}, nil},
		{[]string{"a"}, []string{"a "}, nil},
		{[]string{"ab", "c"}, []string{"a", "bc"}, nil},
		{[]string{"a\n", "\xff", "\xfe"}, []string{"\n", "\xff", "a\n"}, [][2]int{{1, 1}}},
	} {
		if n := Many(x.a, x.b); n != len(x.want) {
			t.Errorf("%d: many %d", i, n)
		}
		if l := Pairs(x.a, x.b); !slices.Equal(l, x.want) {
			t.Errorf("%d: pairs %v", i, l)
		}
	}
}

// P3.2: where both ways on have as much, a goes on.
func TestPairsWhereBothHaveAsMuch(t *testing.T) {
	for i, x := range []struct {
		a, b string
		want [][2]int
	}{
		{"ab", "ba", [][2]int{{1, 0}}},
		{"ba", "ab", [][2]int{{1, 0}}},
		{"abc", "bca", [][2]int{{1, 0}, {2, 1}}},
		{"bca", "abc", [][2]int{{0, 1}, {1, 2}}},
		{"abc", "cab", [][2]int{{0, 1}, {1, 2}}},
		{"abc", "cba", [][2]int{{2, 0}}},
		{"abab", "baba", [][2]int{{1, 0}, {2, 1}, {3, 2}}},
		{"abcd", "badc", [][2]int{{1, 0}, {3, 2}}},
		{"abcd", "cdab", [][2]int{{2, 0}, {3, 1}}},
		{"xab", "yba", [][2]int{{2, 1}}},
		{"xabx", "yabay", [][2]int{{1, 1}, {2, 2}}},
		// What is the same is paired at once, though another pair would have as much.
		{"aab", "ab", [][2]int{{0, 0}, {2, 1}}},
		{"aba", "a", [][2]int{{0, 0}}},
		{"ab", "aab", [][2]int{{0, 0}, {1, 2}}},
		// b goes on only where that has more.
		{"ab", "cab", [][2]int{{0, 1}, {1, 2}}},
		{"ab", "bab", [][2]int{{0, 1}, {1, 2}}},
	} {
		if l := Pairs(letters(x.a), letters(x.b)); !slices.Equal(l, x.want) {
			t.Errorf("%d: pairs %v", i, l)
		}
	}
}

// P3.1 to P3.3: all pairs of short lists.
func TestAllShortLists(t *testing.T) {
	for _, all := range [][]string{texts(6, "ab"), texts(4, "abc")} {
		for _, a := range all {
			for _, b := range all {
				check(t, letters(a), letters(b))
			}
		}
	}
}

// within tells whether the lines of some stand in l in order.
func within(some, l []string) bool {
	for _, line := range l {
		if len(some) > 0 && some[0] == line {
			some = some[1:]
		}
	}
	return len(some) == 0
}

// P3.3: of all lists, none that is longer than Many stands in both in order, and one that is as long does.
func TestNoMoreStandInBoth(t *testing.T) {
	all := texts(5, "ab")
	for _, a := range all {
		for _, b := range all {
			longest := 0
			for _, some := range all {
				if within(letters(some), letters(a)) && within(letters(some), letters(b)) {
					longest = max(longest, len(some))
				}
			}
			if n := Many(letters(a), letters(b)); n != longest {
				t.Errorf("%s, %s: many %d, not %d", a, b, n, longest)
			}
			if n := len(Pairs(letters(a), letters(b))); n != longest {
				t.Errorf("%s, %s: %d pairs, not %d", a, b, n, longest)
			}
		}
	}
}

// steps are, for each text of at most most bytes, how many lines it takes to change a into it, one by one.
func steps(a string, most int, alphabet string) map[string]int {
	far := map[string]int{a: 0}
	queue := []string{a}
	for len(queue) > 0 {
		s := queue[0]
		queue = queue[1:]
		for next := range nearby(s, alphabet) {
			if _, seen := far[next]; !seen && len(next) <= most {
				far[next] = far[s] + 1
				queue = append(queue, next)
			}
		}
	}
	return far
}

// nearby are the texts that have one byte less, or one more.
func nearby(s, alphabet string) iter.Seq[string] {
	return func(yield func(string) bool) {
		for i := range len(s) {
			if !yield(s[:i] + s[i+1:]) {
				return
			}
		}
		for i := range len(s) + 1 {
			for _, c := range letters(alphabet) {
				if !yield(s[:i] + c + s[i:]) {
					return
				}
			}
		}
	}
}

// P3.3: no way to change the one into the other takes fewer lines than are in no pair; and one takes as many.
func TestLinesInNoPair(t *testing.T) {
	for _, a := range texts(4, "ab") {
		far := steps(a, 6, "ab")
		for _, b := range texts(4, "ab") {
			alone := len(a) + len(b) - 2*len(Pairs(letters(a), letters(b)))
			if alone != far[b] {
				t.Errorf("%s to %s: %d in no pair, %d to change", a, b, alone, far[b])
			}
		}
	}
}

// P3.1: the other way round there are as many.
func TestBothWaysRound(t *testing.T) {
	all := texts(5, "ab")
	for _, a := range all {
		for _, b := range all {
			if Many(letters(a), letters(b)) != Many(letters(b), letters(a)) {
				t.Errorf("%s, %s: others the other way round", a, b)
			}
		}
	}
}

// scatter is a list of n lines of some few, the same for the same seed.
func scatter(n, few int, seed uint32) []string {
	var l []string
	for range n {
		seed = seed*1664525 + 1013904223
		l = append(l, strconv.Itoa(int(seed>>16)%few))
	}
	return l
}

// P3.1 to P3.3: lists of all lengths about the squares, where the rows that are kept lie.
func TestListsOfMiddlingLengths(t *testing.T) {
	for n := range 40 {
		for _, m := range []int{0, 1, 7, 15, 16, 17, 33} {
			for few := range 4 {
				a, b := scatter(n, few+1, uint32(n*m)), scatter(m, few+1, uint32(n+m+1))
				check(t, a, b)
			}
		}
	}
}

// P3.1 to P3.3: as long as a file may be, and longer, as this layer bounds none.
func TestLongLists(t *testing.T) {
	for _, few := range []int{1, 2, 5, 100} {
		check(t, scatter(200, few, 1), scatter(200, few, 2))
		check(t, scatter(700, few, 3), scatter(300, few, 4))
		check(t, scatter(300, few, 5), scatter(700, few, 6))
	}
}

// R1: lists far longer than a file.
func TestVeryLongLists(t *testing.T) {
	long := scatter(1000000, 1000, 7)
	for _, x := range []struct {
		a, b []string
		want int
	}{
		{long, nil, 0},
		{nil, long, 0},
		{long, []string{"none"}, 0},
		{[]string{"none"}, long, 0},
		{long, long[len(long)-3:], 3},
		{long[len(long)-3:], long, 3},
	} {
		if n := Many(x.a, x.b); n != x.want {
			t.Errorf("%d and %d lines: many %d", len(x.a), len(x.b), n)
		}
		checkLength(t, x.a, x.b, x.want)
	}
	some := make([]string, 5000)
	for i := range some {
		some[i] = strconv.Itoa(i)
	}
	other := append(slices.Clone(some[1:]), some[0])
	checkLength(t, some, other, len(some)-1)
}

// checkLength is for lists that are too long to be told.
func checkLength(t *testing.T, a, b []string, want int) {
	t.Helper()
	l := Pairs(a, b)
	if len(l) != want {
		t.Errorf("%d and %d lines: %d pairs, not %d", len(a), len(b), len(l), want)
	}
	for k, p := range l {
		if a[p[0]] != b[p[1]] || k > 0 && (p[0] <= l[k-1][0] || p[1] <= l[k-1][1]) {
			t.Errorf("%d and %d lines: pair %d is %v", len(a), len(b), k, p)
			return
		}
	}
}

// marked is l with room behind it, in which a write is seen.
func marked(l []string) []string {
	return append(slices.Clone(l), "mark", "mark", "mark")[:len(l)]
}

// R3: what is handed in stays, its room too, and what is answered is the caller's own.
func TestNothingIsShared(t *testing.T) {
	all := texts(4, "ab")
	for _, a := range all {
		for _, b := range all {
			checkOwn(t, letters(a), letters(b))
		}
	}
	checkOwn(t, scatter(200, 3, 1), scatter(150, 3, 2))
}

func checkOwn(t *testing.T, a, b []string) {
	t.Helper()
	a2, b2 := marked(a), marked(b)
	many, l := Many(a2, b2), Pairs(a2, b2)
	if !slices.Equal(a2[:len(a)+3], append(slices.Clone(a), "mark", "mark", "mark")) ||
		!slices.Equal(b2[:len(b)+3], append(slices.Clone(b), "mark", "mark", "mark")) {
		t.Errorf("%q, %q: changed", a, b)
	}
	other, kept := Pairs(a2, b2), slices.Clone(l)
	for i := range l[:cap(l)] {
		l[:cap(l)][i] = [2]int{-1, -1}
	}
	if !slices.Equal(other, kept) {
		t.Errorf("%q, %q: two answers share", a, b)
	}
	if n := Many(a2, b2); n != many {
		t.Errorf("%q, %q: many %d, and then %d", a, b, many, n)
	}
	if again := Pairs(a2, b2); !slices.Equal(again, kept) {
		t.Errorf("%q, %q: what was answered is asked again: %v", a, b, again)
	}
	for i := range a2 {
		a2[i] = "later"
	}
	for i := range b2 {
		b2[i] = "still later"
	}
	if !slices.Equal(other, kept) {
		t.Errorf("%q, %q: what was answered changed", a, b)
	}
}

// R3: one list handed in twice, and lists that overlap.
func TestTheSameListTwice(t *testing.T) {
	l := marked(letters("abcab"))
	check(t, l, l)
	check(t, l, l[2:])
	check(t, l[:3], l[1:])
	if !slices.Equal(l[:8], append(letters("abcab"), "mark", "mark", "mark")) {
		t.Errorf("changed: %q", l)
	}
}

// Who ranges over the pairs may stop at any of them, and range over them once more.
func TestPairsMayBeLeft(t *testing.T) {
	a, b := scatter(30, 3, 1), scatter(30, 3, 2)
	all := Pairs(a, b)
	come := pairs(a, b)
	for n := range len(all) {
		var l [][2]int
		for p := range come {
			l = append(l, p)
			if len(l) > n {
				break
			}
		}
		if !slices.Equal(l, all[:n+1]) {
			t.Errorf("left at %d: %v", n, l)
		}
	}
}

func FuzzLcs(f *testing.F) {
	f.Add("a b c d", "b d a")
	f.Add("a a b", "a b a")
	f.Add("", "a")
	f.Fuzz(func(t *testing.T, a, b string) {
		la, lb := strings.Fields(a), strings.Fields(b)
		if len(la) > 300 || len(lb) > 300 {
			return
		}
		check(t, la, lb)
		check(t, letters(a[:min(len(a), 100)]), letters(b[:min(len(b), 100)]))
	})
}
