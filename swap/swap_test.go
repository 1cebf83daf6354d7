package swap

import (
	"fmt"
	"math"
	"slices"
	"strconv"
	"strings"
	"testing"

	"quiltmaker/api"
	"quiltmaker/hunk"
)

// words is a list of the words of s.
func words(s string) []string { return strings.Fields(s) }

func put(at int, old, now string) api.Hunk {
	return api.Hunk{At: at, Old: words(old), New: words(now)}
}

// long is a hunk that takes and leaves many lines.
func long(at, old, now int) api.Hunk {
	return api.Hunk{At: at, Old: many(old, "o"), New: many(now, "n")}
}

func at(h api.Hunk, n int) api.Hunk {
	h.At = n
	return h
}

// of is n bytes of s, one behind the other; many a list of n lines s.
func of(n int, s string) string { return strings.Repeat(s, n) }

func many(n int, s string) []string { return slices.Repeat([]string{s}, n) }

// equal holds two hunks against each other without a call of what is tested.
func equal(g, h api.Hunk) bool {
	return g.At == h.At && slices.Equal(g.Old, h.Old) && slices.Equal(g.New, h.New)
}

// short are all lists of at most n of the lines.
func short(n int, lines ...string) [][]string {
	all, level := [][]string{nil}, [][]string{nil}
	for range n {
		var next [][]string
		for _, l := range level {
			for _, line := range lines {
				next = append(next, append(slices.Clone(l), line))
			}
		}
		all, level = append(all, next...), next
	}
	return all
}

// numbered is a list of n lines, no two the same.
func numbered(n int) []string {
	l := make([]string, n)
	for i := range l {
		l[i] = strconv.Itoa(i)
	}
	return l
}

// mayBe is whether a hunk may be (P5.1), told byte by byte.
func mayBe(h api.Hunk) bool {
	if h.At < 0 || h.At > 1<<20 || len(h.Old) > 200 || len(h.New) > 200 {
		return false
	}
	for _, line := range slices.Concat(h.Old, h.New) {
		if len(line) > 80 || strings.Contains(line, "\n") {
			return false
		}
	}
	return true
}

// told is what P6.1 tells, clause by clause.
func told(p, q api.Hunk) (api.Hunk, api.Hunk, bool) {
	if !mayBe(p) || !mayBe(q) {
		return api.Hunk{}, api.Hunk{}, false
	}
	first, second := q, p
	switch {
	case q.At > p.At+len(p.New):
		first.At = q.At - len(p.New) + len(p.Old)
	case p.At > q.At+len(q.Old):
		second.At = p.At - len(q.Old) + len(q.New)
	default:
		return api.Hunk{}, api.Hunk{}, false
	}
	if first.At > 1<<20 || second.At > 1<<20 {
		return api.Hunk{}, api.Hunk{}, false
	}
	return first, second, true
}

// checkPass holds P6.1 as it is told, R4, and of P6.2 that the two pass back.
func checkPass(t *testing.T, p, q api.Hunk) {
	t.Helper()
	first, second, ok := Pass(p, q)
	wantFirst, wantSecond, want := told(p, q)
	if ok != want || !equal(first, wantFirst) || !equal(second, wantSecond) {
		t.Errorf("%v, %v: %v, %v, %v, not %v, %v, %v", p, q, first, second, ok, wantFirst, wantSecond, want)
	}
	if !ok {
		return
	}
	if !mayBe(first) || !mayBe(second) {
		t.Errorf("%v, %v: %v and %v may not be", p, q, first, second)
	}
	if backP, backQ, ok := Pass(first, second); !ok || !equal(backP, p) || !equal(backQ, q) {
		t.Errorf("%v, %v: passed back %v, %v, %v", p, q, backP, backQ, ok)
	}
}

// both is what two hunks make of a list, one behind the other.
func both(l []string, g, h api.Hunk) ([]string, bool) {
	mid, e := hunk.Apply(l, g)
	if e != api.OK {
		return nil, false
	}
	end, e := hunk.Apply(mid, h)
	return end, e == api.OK
}

// checkSame holds P6.2: two that change l, one behind the other, do so to the same when they have passed. It tells whether they did.
func checkSame(t *testing.T, l []string, p, q api.Hunk) bool {
	t.Helper()
	checkPass(t, p, q)
	first, second, ok := Pass(p, q)
	if !ok {
		return false
	}
	want, fits := both(l, p, q)
	got, fit := both(l, first, second)
	if fit != fits || !slices.Equal(got, want) {
		t.Errorf("%q, %v, %v: %q, %v; passed, by %v, %v: %q, %v", l, p, q, want, fits, first, second, got, fit)
	}
	return fits
}

// P6.1: the chapter's examples, that of the whole, and ordinary hunks.
func TestPass(t *testing.T) {
	for _, x := range []struct{ p, q, first, second api.Hunk }{
		// The chapter's example, which is that of the whole.
		{put(0, "", "x"), put(5, "b", ""), put(4, "b", ""), put(0, "", "x")},
		{put(0, "", "x"), put(2, "b", ""), put(1, "b", ""), put(0, "", "x")},
		// The second one lies behind: it stands farther ahead, farther behind, or where it stood.
		{put(1, "", "x y"), put(5, "b", "z"), put(3, "b", "z"), put(1, "", "x y")},
		{put(1, "a b", ""), put(5, "c", "z"), put(7, "c", "z"), put(1, "a b", "")},
		{put(1, "a", "x"), put(5, "b", "y"), put(5, "b", "y"), put(1, "a", "x")},
		{put(1, "a b c", "x"), put(5, "", "y"), put(7, "", "y"), put(1, "a b c", "x")},
		{put(1, "a", "x y z"), put(5, "b c", ""), put(3, "b c", ""), put(1, "a", "x y z")},
		// The second one lies ahead: the first one stands farther behind, farther ahead, or where it stood.
		{put(5, "a", "x"), put(1, "", "y z"), put(1, "", "y z"), put(7, "a", "x")},
		{put(5, "a", "x"), put(1, "b c", ""), put(1, "b c", ""), put(3, "a", "x")},
		{put(5, "a", "x"), put(1, "b", "y"), put(1, "b", "y"), put(5, "a", "x")},
		{put(5, "", "x y"), put(1, "b", "y z v w"), put(1, "b", "y z v w"), put(8, "", "x y")},
		{put(5, "a b", ""), put(1, "c d e", "y"), put(1, "c d e", "y"), put(3, "a b", "")},
		// How many lines the one behind takes and leaves is all the same.
		{put(0, "", "x"), put(2, "a b c d e", ""), put(1, "a b c d e", ""), put(0, "", "x")},
		{put(9, "a b c d e", ""), put(0, "x", ""), put(0, "x", ""), put(8, "a b c d e", "")},
		{put(9, "", "a b c d e"), put(0, "", "x"), put(0, "", "x"), put(10, "", "a b c d e")},
		// The same lines in both, and lines that say nothing.
		{put(0, "a", "b"), put(2, "a", "b"), put(2, "a", "b"), put(0, "a", "b")},
		{api.Hunk{New: []string{""}}, api.Hunk{At: 2, Old: []string{"", ""}}, api.Hunk{At: 1, Old: []string{"", ""}}, api.Hunk{New: []string{""}}},
	} {
		first, second, ok := Pass(x.p, x.q)
		if !ok || !equal(first, x.first) || !equal(second, x.second) {
			t.Errorf("%v, %v: %v, %v, %v", x.p, x.q, first, second, ok)
		}
		checkPass(t, x.p, x.q)
	}
}

// P6.1, R4: a line must stand between both, and no more than one. Each q is the nearest that does not pass, or the nearest that does.
func TestPassAtTheEdges(t *testing.T) {
	for _, x := range []struct {
		p, q api.Hunk
		want bool
	}{
		// The chapter's example.
		{put(3, "", "x"), put(3, "", "y"), false},
		{put(3, "", "x"), put(4, "", "y"), false},
		{put(3, "", "x"), put(5, "", "y"), true},
		// Right behind what the first one leaves, and one line further.
		{put(3, "a", "x y"), put(5, "b", "z"), false},
		{put(3, "a", "x y"), put(6, "b", "z"), true},
		{put(3, "a b c", "x"), put(4, "d", "z"), false},
		{put(3, "a b c", "x"), put(5, "d", "z"), true},
		{put(3, "a", ""), put(3, "b", ""), false},
		{put(3, "a", ""), put(4, "b", ""), true},
		{put(0, "", "x"), put(1, "a", ""), false},
		{put(0, "", "x"), put(2, "a", ""), true},
		// Right ahead of the first one, by what the second one takes, and one line further.
		{put(5, "a", "x"), put(3, "b c", "y"), false},
		{put(5, "a", "x"), put(2, "b c", "y"), true},
		{put(5, "a", "x"), put(4, "b", "y z v"), false},
		{put(5, "a", "x"), put(3, "b", "y z v"), true},
		{put(5, "", "x"), put(5, "", "y"), false},
		{put(5, "", "x"), put(4, "", "y"), true},
		{put(1, "a", ""), put(0, "b", ""), false},
		{put(2, "a", ""), put(0, "b", ""), true},
		{put(1, "a", ""), put(0, "", "y"), true},
		{put(0, "a", ""), put(0, "", "y"), false},
		// Both at the same place, whatever they take and leave.
		{put(2, "a", "x"), put(2, "x", "y"), false},
		{put(2, "a", ""), put(2, "", "y"), false},
		{put(2, "", "x"), put(2, "x", ""), false},
		{put(2, "", ""), put(2, "", ""), false},
		{put(0, "", ""), put(0, "", ""), false},
		// One within, across, or around the other.
		{put(3, "", "x y z"), put(4, "y", "v"), false},
		{put(3, "", "x y z"), put(4, "", "v"), false},
		{put(3, "", "x y z"), put(5, "z a b", "v"), false},
		{put(3, "a", "x y"), put(1, "b c x", "v"), false},
		{put(3, "a", "x y"), put(2, "b x y c", "v"), false},
		{put(3, "a", ""), put(2, "b c", "v"), false},
		// Such as neither take nor put lines touch as others do.
		{put(3, "", ""), put(4, "", ""), true},
		{put(3, "", ""), put(2, "", ""), true},
		{put(3, "", ""), put(2, "a", "x"), false},
		{put(3, "", ""), put(1, "a", "x"), true},
		{put(3, "", ""), put(4, "a", "x"), true},
		{put(3, "a", "x"), put(3, "", ""), false},
		{put(3, "a", "x"), put(4, "", ""), false},
		{put(3, "a", "x"), put(5, "", ""), true},
		{put(3, "a", "x"), put(2, "", ""), true},
		// As many lines as may be.
		{long(3, 200, 200), long(203, 200, 200), false},
		{long(3, 200, 200), long(204, 200, 200), true},
		{long(203, 200, 200), long(3, 200, 200), false},
		{long(204, 200, 200), long(3, 200, 200), true},
		{long(0, 200, 0), long(0, 0, 200), false},
		{long(0, 200, 0), long(1, 0, 200), true},
		{long(0, 0, 200), long(200, 200, 0), false},
		{long(0, 0, 200), long(201, 200, 0), true},
	} {
		if first, second, ok := Pass(x.p, x.q); ok != x.want || !ok && !(equal(first, api.Hunk{}) && equal(second, api.Hunk{})) {
			t.Errorf("%v, %v: %v, %v, %v", x.p, x.q, first, second, ok)
		}
		checkPass(t, x.p, x.q)
	}
}

// P6.1, R4: no At above 2^20 is told, but 2^20 is.
func TestPassAtTheEnd(t *testing.T) {
	const end = 1 << 20
	for _, x := range []struct {
		p, q api.Hunk
		atQ  int
		atP  int
	}{
		// The second one would stand farther behind.
		{long(0, 1, 0), long(end-2, 1, 0), end - 1, 0},
		{long(0, 1, 0), long(end-1, 1, 0), end, 0},
		{long(0, 1, 0), long(end, 1, 0), -1, -1},
		{long(0, 200, 0), long(end-200, 0, 0), end, 0},
		{long(0, 200, 0), long(end-199, 0, 0), -1, -1},
		{long(0, 200, 0), long(end, 0, 0), -1, -1},
		{long(7, 3, 1), long(end-2, 0, 9), end, 7},
		{long(7, 3, 1), long(end-1, 0, 9), -1, -1},
		{long(end-2, 1, 0), long(end-1, 1, 0), end, end - 2},
		{long(end-2, 2, 0), long(end-1, 1, 0), -1, -1},
		{long(end-1, 0, 0), long(end, 0, 0), end, end - 1},
		{long(end-1, 1, 0), long(end, 0, 0), -1, -1},
		// The first one would.
		{long(end-2, 1, 0), long(0, 0, 1), 0, end - 1},
		{long(end-1, 1, 0), long(0, 0, 1), 0, end},
		{long(end, 1, 0), long(0, 0, 1), -1, -1},
		{long(end-200, 0, 0), long(0, 0, 200), 0, end},
		{long(end-199, 0, 0), long(0, 0, 200), -1, -1},
		{long(end, 0, 0), long(0, 0, 200), -1, -1},
		{long(end-2, 9, 0), long(7, 1, 3), 7, end},
		{long(end-1, 9, 0), long(7, 1, 3), -1, -1},
		{long(end, 0, 0), long(end-1, 0, 0), end - 1, end},
		{long(end, 0, 0), long(end-1, 0, 1), -1, -1},
		// What stands at the end stays there, or comes nearer; how many lines it has is all the same.
		{long(0, 1, 1), long(end, 200, 200), end, 0},
		{long(0, 1, 2), long(end, 200, 200), end - 1, 0},
		{long(0, 0, 200), long(end, 200, 200), end - 200, 0},
		{long(end, 200, 200), long(0, 1, 1), 0, end},
		{long(end, 200, 200), long(0, 2, 1), 0, end - 1},
		{long(end, 200, 200), long(0, 200, 0), 0, end - 200},
		{long(end, 200, 200), long(end-201, 200, 200), end - 201, end},
		// Both at the end.
		{long(end, 0, 0), long(end, 0, 0), -1, -1},
		{long(end, 0, 200), long(end, 200, 0), -1, -1},
		{long(end, 200, 200), long(end-200, 200, 0), -1, -1},
	} {
		first, second, ok := Pass(x.p, x.q)
		want := x.atQ >= 0
		wantFirst, wantSecond := at(x.q, x.atQ), at(x.p, x.atP)
		if !want {
			wantFirst, wantSecond = api.Hunk{}, api.Hunk{}
		}
		if ok != want || !equal(first, wantFirst) || !equal(second, wantSecond) {
			t.Errorf("%d -%d +%d, %d -%d +%d: at %d and %d, %v", x.p.At, len(x.p.Old), len(x.p.New), x.q.At, len(x.q.Old), len(x.q.New), first.At, second.At, ok)
		}
		checkPass(t, x.p, x.q)
	}
}

// wrong are hunks that may not be.
var wrong = []api.Hunk{
	{At: -1}, {At: -2}, {At: -1 << 20}, {At: -1 << 32}, {At: math.MinInt}, {At: math.MinInt + 1},
	{At: 1<<20 + 1}, {At: 1 << 21}, {At: 1 << 32}, {At: 1<<32 + 1}, {At: math.MaxInt - 1}, {At: math.MaxInt},
	{At: math.MaxInt, Old: []string{"a"}, New: []string{"b", "c"}},
	{At: math.MinInt, Old: []string{"a", "b"}, New: []string{"c"}},
	{At: 5, Old: []string{"\n"}}, {At: 5, Old: []string{"a", "b\n"}}, {At: 5, Old: []string{of(81, "x")}}, {At: 5, Old: many(201, "")},
	{At: 5, New: []string{"\n"}}, {At: 5, New: []string{"a\nb", "c"}}, {At: 5, New: []string{of(81, "x")}}, {At: 5, New: many(201, "")},
	{At: 5, Old: []string{"a"}, New: append(many(199, "a"), of(41, "é"))},
	{At: 5, Old: many(1000, "a"), New: []string{"b"}},
}

// P6.1, R1, R4: a hunk that may not be, as the first one, as the second one, as both.
func TestPassWhatMayNotBe(t *testing.T) {
	fair := []api.Hunk{{}, {At: 1}, put(5, "a", "x"), put(700, "a", ""), put(3, "", "x y"), long(300, 200, 200), {At: 1 << 20}}
	for _, h := range wrong {
		for _, g := range append(slices.Clone(fair), wrong...) {
			for _, x := range [][2]api.Hunk{{h, g}, {g, h}} {
				if first, second, ok := Pass(x[0], x[1]); ok || !equal(first, api.Hunk{}) || !equal(second, api.Hunk{}) {
					t.Errorf("%v, %v: %v, %v, %v", x[0], x[1], first, second, ok)
				}
				checkPass(t, x[0], x[1])
			}
		}
	}
	// Such as just may be, in the place of those that just may not.
	for _, h := range []api.Hunk{
		{At: 5, Old: []string{of(80, "x")}}, {At: 5, Old: many(200, "")},
		{At: 5, New: []string{of(40, "é")}}, {At: 5, New: many(200, "\r")},
	} {
		for _, g := range []api.Hunk{{At: 700}, {At: 0}} {
			if _, _, ok := Pass(h, g); !ok {
				t.Errorf("%v, %v: don't pass", h, g)
			}
			if _, _, ok := Pass(g, h); !ok {
				t.Errorf("%v, %v: don't pass", g, h)
			}
		}
	}
}

// between tells of two hunks what stands to reason, by what they do to a list of which no two lines are the same: which line stands right ahead of the later one, that neither has touched; and where that line tells each to stand when q goes first.
func between(l []string, p, q api.Hunk) (atQ, atP int, ok bool) {
	mid := slices.Concat(l[:p.At], p.New, l[p.At+len(p.Old):])
	end := slices.Concat(mid[:q.At], q.New, mid[q.At+len(q.Old):])
	place := func(l []string, line string) int { return slices.Index(l, line) + 1 }
	if q.At > 0 && q.At-1 >= p.At+len(p.New) {
		return place(l, mid[q.At-1]), p.At, true
	}
	if p.At > 0 && p.At-1 >= q.At+len(q.Old) {
		return q.At, place(end, mid[p.At-1]), true
	}
	return 0, 0, false
}

// P6.1, P6.2, P3: all pairs of small hunks that fit a list of which no two lines are the same.
func TestPassAllThatFit(t *testing.T) {
	l := numbered(9)
	passed := 0
	small(l, "p", func(p api.Hunk, mid []string) {
		small(mid, "q", func(q api.Hunk, _ []string) {
			atQ, atP, want := between(l, p, q)
			first, second, ok := Pass(p, q)
			if ok != want || ok && (!equal(first, at(q, atQ)) || !equal(second, at(p, atP))) {
				t.Errorf("%v, %v: %v, %v, %v, not at %d, %d, %v", p, q, first, second, ok, atQ, atP, want)
			}
			if checkSame(t, l, p, q) {
				passed++
			}
		})
	})
	if passed < 1000 {
		t.Errorf("only %d pass", passed)
	}
}

// small does f for each hunk of at most 3 lines that fits l, and puts at most 3 there, and what it makes of l.
func small(l []string, line string, f func(api.Hunk, []string)) {
	for from := range len(l) + 1 {
		for to := from; to <= min(from+3, len(l)); to++ {
			for n := range 4 {
				var now []string
				for k := range n {
					now = append(now, line+strconv.Itoa(k))
				}
				h := api.Hunk{At: from, Old: slices.Clone(l[from:to]), New: now}
				f(h, slices.Concat(l[:from], now, l[to:]))
			}
		}
	}
}

// P6.1, P6.2, P3: all pairs of short hunks of few lines, on short lists, whether they fit or not: what did not change a list does not do so passed.
func TestPassOnAllShortLists(t *testing.T) {
	var all []api.Hunk
	for at := -1; at <= 4; at++ {
		for _, old := range short(2, "a", "b") {
			for _, now := range short(1, "a", "b") {
				all = append(all, api.Hunk{At: at, Old: old, New: now})
			}
		}
	}
	lists := short(4, "a", "b")
	passed := 0
	for _, p := range all {
		for _, q := range all {
			checkPass(t, p, q)
			if _, _, ok := told(p, q); !ok {
				continue
			}
			for _, l := range lists {
				if checkSame(t, l, p, q) {
					passed++
				}
			}
		}
	}
	if passed < 1000 {
		t.Errorf("only %d pass", passed)
	}
}

// P6.1: all that Pass hangs on, at all edges at once.
func TestPassAllNumbers(t *testing.T) {
	counts := []int{0, 1, 2, 199, 200}
	var all []api.Hunk
	for _, place := range []int{0, 1, 2, 3, 199, 200, 201, 202, 400, 401, 402, 1<<20 - 201, 1<<20 - 200, 1<<20 - 199, 1<<20 - 1, 1 << 20, 1<<20 + 1} {
		for _, old := range counts {
			for _, now := range counts {
				all = append(all, long(place, old, now))
			}
		}
	}
	for _, p := range all {
		for _, q := range all {
			first, second, ok := Pass(p, q)
			wantFirst, wantSecond, want := told(p, q)
			if ok != want || !equal(first, wantFirst) || !equal(second, wantSecond) {
				t.Fatalf("%d -%d +%d, %d -%d +%d: at %d and %d, %v", p.At, len(p.Old), len(p.New), q.At, len(q.Old), len(q.New), first.At, second.At, ok)
			}
		}
	}
}

// P6.2: on a list that is as long as places go.
func TestPassOnALongList(t *testing.T) {
	l := numbered(1<<20 + 300)
	take := func(at, n int, now ...string) api.Hunk { return api.Hunk{At: at, Old: l[at : at+n], New: now} }
	for _, x := range []struct{ p, q api.Hunk }{
		{take(0, 1), at(take(1<<20, 2, "y"), 1<<20-1)},
		{take(1<<20-3, 2, "x"), api.Hunk{At: 1<<20 - 1, New: words("y z")}},
		{take(0, 0, "x", "y"), at(take(1<<20-2, 2), 1<<20)},
		{take(1<<20-1, 200, "x"), take(0, 0, "y")},
		{take(1<<20, 200, "x"), take(1<<20-2, 1)},
	} {
		if first, second, ok := Pass(x.p, x.q); !ok {
			t.Errorf("at %d and %d: %v", x.p.At, x.q.At, ok)
		} else if got, fit := both(l, first, second); !fit {
			t.Errorf("at %d and %d: don't fit", first.At, second.At)
		} else if want, fits := both(l, x.p, x.q); !fits || !slices.Equal(got, want) {
			t.Errorf("at %d and %d: not the same", x.p.At, x.q.At)
		}
		checkPass(t, x.p, x.q)
	}
}

// P6.2: hunks of two lists have a line between them: they pass one another till they stand the other way round, and change the one list into the other still.
func TestPassHunksOfTwoLists(t *testing.T) {
	all := short(5, "a", "b")
	all = append(all, words("a x b y c z d"), words("x a y b z c"), words("a b c d"))
	for _, a := range all {
		for _, b := range all {
			l := hunk.Of(a, b)
			for end := len(l); end > 1; end-- {
				for k := range end - 1 {
					first, second, ok := Pass(l[k], l[k+1])
					if !ok {
						t.Fatalf("%q to %q: %v, %v don't pass", a, b, l[k], l[k+1])
					}
					l[k], l[k+1] = first, second
				}
			}
			got := a
			for k, h := range l {
				next, e := hunk.Apply(got, h)
				if e != api.OK || k > 0 && h.At >= l[k-1].At {
					t.Errorf("%q to %q: hunk %d of %v: error %d", a, b, k, l, e)
				}
				got = next
			}
			if !slices.Equal(got, b) {
				t.Errorf("%q to %q: %v make %q", a, b, l, got)
			}
		}
	}
}

// R6: nil and empty lists are the same.
func TestPassNothing(t *testing.T) {
	for _, none := range [][]string{nil, {}} {
		for _, other := range [][]string{nil, {}} {
			p, q := api.Hunk{At: 2, Old: none, New: other}, api.Hunk{At: 4, Old: other, New: none}
			if first, second, ok := Pass(p, q); !ok || !equal(first, q) || !equal(second, p) {
				t.Errorf("%#v, %#v: %v, %v, %v", p, q, first, second, ok)
			}
			checkPass(t, p, p)
			checkPass(t, q, p)
		}
	}
}

// marked is l with room behind it, in which a write is seen; unmarked tells whether a list is still as marked made it of was.
func marked(l []string) []string {
	return append(slices.Clone(l), "mark", "mark")[:len(l)]
}

func unmarked(l, was []string) bool {
	return slices.Equal(l[:len(was)+2], append(slices.Clone(was), "mark", "mark"))
}

// spoil writes over a list, and over the room behind it.
func spoil(l []string) {
	l = l[:cap(l)]
	for i := range l {
		l[i] = "spoilt"
	}
}

// checkOwn holds R3: what is handed in stays, its room too, and what is answered shares nothing with that, nor within itself.
func checkOwn(t *testing.T, p, q api.Hunk) {
	t.Helper()
	was := [][]string{p.Old, p.New, q.Old, q.New}
	var in [][]string
	for _, l := range was {
		in = append(in, marked(l))
	}
	handed := func() (api.Hunk, api.Hunk) {
		return api.Hunk{At: p.At, Old: in[0], New: in[1]}, api.Hunk{At: q.At, Old: in[2], New: in[3]}
	}
	stays := func(what string) {
		for k := range in {
			if !unmarked(in[k], was[k]) {
				t.Errorf("%v, %v: list %d of what was handed in: %s", p, q, k, what)
			}
		}
	}
	first, second, ok := Pass(handed())
	stays("changed")
	if !ok {
		return
	}
	lists := [][]string{second.Old, second.New, first.Old, first.New}
	for k, l := range lists {
		spoil(l)
		for n := k + 1; n < len(lists); n++ {
			if !slices.Equal(lists[n], was[n]) {
				t.Errorf("%v, %v: lists %d and %d of what is answered are shared", p, q, k, n)
			}
		}
	}
	stays("is shared with what is answered")
	first, second, _ = Pass(handed())
	for _, l := range in {
		spoil(l)
	}
	if wantFirst, wantSecond, _ := told(p, q); !equal(first, wantFirst) || !equal(second, wantSecond) {
		t.Errorf("%v, %v: what was answered changed: %v, %v", p, q, first, second)
	}
}

// R3: ordinary hunks, such as don't pass, and such as may not be.
func TestNothingIsShared(t *testing.T) {
	lists := append(short(2, "a", "b"), []string{}, []string{"\n"}, many(200, "a"))
	for _, one := range lists {
		for _, other := range lists {
			for _, far := range []int{0, 2, 4, 300} {
				p, q := api.Hunk{At: 2, Old: one, New: other}, api.Hunk{At: far, Old: other, New: one}
				checkOwn(t, p, q)
				checkOwn(t, q, p)
				checkOwn(t, p, at(p, far))
			}
		}
	}
}

// R3: one list as all four, and lists that overlap.
func TestOneListFourTimes(t *testing.T) {
	was := words("a b c a b")
	l := marked(was)
	for _, x := range []struct{ p, q api.Hunk }{
		{api.Hunk{At: 1, Old: l, New: l}, api.Hunk{At: 7, Old: l, New: l}},
		{api.Hunk{At: 7, Old: l, New: l}, api.Hunk{At: 1, Old: l, New: l}},
		{api.Hunk{At: 1, Old: l[:2], New: l[1:4]}, api.Hunk{At: 7, Old: l[2:], New: l[:0]}},
	} {
		checkPass(t, x.p, x.q)
		first, second, ok := Pass(x.p, x.q)
		if !ok || !unmarked(l, was) {
			t.Fatalf("%v, %v: %v", x.p, x.q, ok)
		}
		spoil(first.Old)
		spoil(second.New)
		if !equal(api.Hunk{Old: second.Old, New: first.New}, api.Hunk{Old: x.p.Old, New: x.q.New}) || !unmarked(l, was) {
			t.Errorf("%v, %v: two lists are one", x.p, x.q)
		}
	}
}

// R5: what is asked does not hang on what was asked ahead of it.
func TestAskedOnceMore(t *testing.T) {
	ask := func() string {
		return fmt.Sprint(Pass(put(0, "", "x"), put(5, "b", ""))) + fmt.Sprint(Pass(put(3, "", "x"), put(4, "", "y")))
	}
	first := ask()
	if want := "{4 [b] []} {0 [] [x]} true{0 [] []} {0 [] []} false"; first != want {
		t.Errorf("%s, not %s", first, want)
	}
	Pass(put(9, "s t", "u"), put(1, "v", ""))
	Pass(put(-1, "", "x"), put(1<<21, "v", ""))
	if again := ask(); again != first {
		t.Errorf("%s, and then %s", first, again)
	}
}

func FuzzPass(f *testing.F) {
	f.Add("a b c d e f", 0, "", "x", 5, "b", "")
	f.Add("a b c", 1, "b", "", 0, "a", "x y")
	f.Add("a", 1<<20, "a", "b", 0, "", "\n")
	f.Add("", -1, "", "", math.MaxInt, "", "")
	f.Fuzz(func(t *testing.T, s string, atP int, oldP, newP string, atQ int, oldQ, newQ string) {
		l := words(s)
		p := api.Hunk{At: atP, Old: strings.Split(oldP, " "), New: strings.Split(newP, " ")}
		q := api.Hunk{At: atQ, Old: words(oldQ), New: words(newQ)}
		checkSame(t, l, p, q)
		checkSame(t, l, q, p)
		checkOwn(t, p, q)
		// And such as fit.
		p.At = max(0, atP%(len(l)+1))
		p.Old = l[p.At:][:min(len(p.Old), len(l)-p.At)]
		if mid, e := hunk.Apply(l, p); e == api.OK {
			q.At = max(0, atQ%(len(mid)+1))
			q.Old = mid[q.At:][:min(len(q.Old), len(mid)-q.At)]
			checkSame(t, l, p, q)
			checkOwn(t, p, q)
		}
	})
}
