package hunk

import (
	"fmt"
	"math"
	"slices"
	"strconv"
	"strings"
	"testing"

	"quiltmaker/api"
	"quiltmaker/diff"
	"quiltmaker/lcs"
)

// words is a list of the words of s.
func words(s string) []string { return strings.Fields(s) }

func hunk(at int, old, now string) api.Hunk {
	return api.Hunk{At: at, Old: words(old), New: words(now)}
}

func hunks(l ...api.Hunk) []api.Hunk { return l }

// of is n bytes of s, one behind the other; many a list of n lines s.
func of(n int, s string) string { return strings.Repeat(s, n) }

func many(n int, s string) []string { return slices.Repeat([]string{s}, n) }

// equal holds two hunks against each other without a call of what is tested.
func equal(g, h api.Hunk) bool {
	return g.At == h.At && slices.Equal(g.Old, h.Old) && slices.Equal(g.New, h.New)
}

// short are all lists of at most n of the lines.
func short(n int, lines ...string) [][]string {
	all, level := [][]string{nil}, [][]string{nil}
	for range n {
		var next [][]string
		for _, l := range level {
			for _, line := range lines {
				next = append(next, append(slices.Clone(l), line))
			}
		}
		all, level = append(all, next...), next
	}
	return all
}

// mixed is a list of n lines of some few, the same for the same seed.
func mixed(n, few, seed int) []string {
	l := make([]string, n)
	x := uint64(seed)*2 + 1
	for i := range l {
		x = x*6364136223846793005 + 1442695040888963407
		l[i] = strconv.Itoa(int(x>>33) % few)
	}
	return l
}

// places are such as At may be, and such as it may not; at the ends of both, and far off.
var places = []struct {
	at  int
	may bool
}{
	{0, true}, {1, true}, {200, true}, {201, true}, {1<<20 - 1, true}, {1 << 20, true},
	{-1, false}, {-2, false}, {-1 << 20, false}, {-1 << 32, false}, {math.MinInt, false}, {math.MinInt + 1, false},
	{1<<20 + 1, false}, {1 << 21, false}, {1 << 32, false}, {1<<32 + 1, false}, {math.MaxInt - 1, false}, {math.MaxInt, false},
}

// lists are such as Old and New may be, and such as they may not.
var lists = []struct {
	l   []string
	may bool
}{
	{nil, true}, {[]string{}, true}, {[]string{""}, true}, {words("a b c"), true},
	{[]string{"a", "", "b c"}, true}, {[]string{"\r", "\x00\xff", "é"}, true},
	{[]string{of(80, "x"), of(80, "y")}, true}, {[]string{of(40, "é")}, true},
	{many(199, "a"), true}, {many(200, ""), true}, {many(200, of(80, "x")), true},
	{[]string{"\n"}, false}, {[]string{"a\nb"}, false}, {[]string{"a", "b", "c\n"}, false},
	{[]string{of(81, "x")}, false}, {[]string{"a", of(81, "x"), "b"}, false}, {[]string{of(41, "é")}, false},
	{many(201, ""), false}, {many(1000, "a"), false},
	{append(many(199, "a"), "\n"), false}, {append(many(199, "a"), of(81, "x")), false},
}

// P5.1: May hangs on At, on Old, and on New, each alone.
func TestMay(t *testing.T) {
	for _, p := range places {
		for i, old := range lists {
			for j, now := range lists {
				want := p.may && old.may && now.may
				if got := May(api.Hunk{At: p.at, Old: old.l, New: now.l}); got != want {
					t.Errorf("At %d, Old list %d, New list %d: %v", p.at, i, j, got)
				}
			}
		}
	}
	if !May(api.Hunk{}) {
		t.Error("a hunk without lines, at 0, may not be")
	}
}

// P5.1: Same, of hunks that differ in one thing alone.
func TestSame(t *testing.T) {
	h := hunk(1, "a b", "c")
	for _, x := range []struct {
		g, h api.Hunk
		want bool
	}{
		{api.Hunk{}, api.Hunk{}, true},
		{h, h, true},
		{h, hunk(1, "a b", "c"), true},
		// At.
		{h, hunk(2, "a b", "c"), false},
		{h, hunk(0, "a b", "c"), false},
		{h, hunk(-1, "a b", "c"), false},
		{h, hunk(1+1<<32, "a b", "c"), false},
		{api.Hunk{}, api.Hunk{At: 1}, false},
		// Old.
		{h, hunk(1, "a", "c"), false},
		{h, hunk(1, "a b b", "c"), false},
		{h, hunk(1, "b a", "c"), false},
		{h, hunk(1, "a x", "c"), false},
		{h, hunk(1, "x b", "c"), false},
		{h, hunk(1, "", "c"), false},
		{hunk(1, "", "c"), api.Hunk{At: 1, Old: []string{""}, New: []string{"c"}}, false},
		// New.
		{h, hunk(1, "a b", "x"), false},
		{h, hunk(1, "a b", ""), false},
		{h, hunk(1, "a b", "c c"), false},
		{h, hunk(1, "a b", "C"), false},
		{hunk(1, "a", ""), api.Hunk{At: 1, Old: []string{"a"}, New: []string{""}}, false},
		// The same lines, but others of them are old.
		{h, hunk(1, "c", "a b"), false},
		{h, hunk(1, "a", "b c"), false},
		{h, hunk(1, "a b c", ""), false},
		{hunk(1, "ab", "c"), hunk(1, "a", "bc"), false},
		// nil and empty lists are the same.
		{api.Hunk{}, api.Hunk{Old: []string{}, New: []string{}}, true},
		{api.Hunk{Old: []string{}}, api.Hunk{}, true},
		{api.Hunk{New: []string{}}, api.Hunk{}, true},
		{api.Hunk{At: 3, Old: []string{}, New: words("a")}, api.Hunk{At: 3, New: words("a")}, true},
		{api.Hunk{At: 3, Old: words("a"), New: []string{}}, api.Hunk{At: 3, Old: words("a")}, true},
		// Such as may not be are held against each other, too.
		{hunk(-1, "a", "b"), hunk(-1, "a", "b"), true},
		{hunk(math.MaxInt, "", ""), hunk(math.MinInt, "", ""), false},
		{api.Hunk{Old: []string{"\n"}}, api.Hunk{Old: []string{"\n"}}, true},
		{api.Hunk{New: many(201, "a")}, api.Hunk{New: many(201, "a")}, true},
		{api.Hunk{New: many(201, "a")}, api.Hunk{New: many(200, "a")}, false},
	} {
		if got := Same(x.g, x.h); got != x.want {
			t.Errorf("%v and %v: %v", x.g, x.h, got)
		}
		if got := Same(x.h, x.g); got != x.want {
			t.Errorf("%v and %v: %v", x.h, x.g, got)
		}
	}
}

// P5.1: Same, of all pairs of some hunks.
func TestSameOfAllPairs(t *testing.T) {
	var all []api.Hunk
	for at := range 2 {
		for _, old := range short(2, "a", "") {
			for _, now := range short(2, "a", "") {
				all = append(all, api.Hunk{At: at, Old: old, New: now})
			}
		}
	}
	for i, g := range all {
		for j, h := range all {
			if got := Same(g, h); got != (i == j) {
				t.Errorf("%v and %v: %v", g, h, got)
			}
		}
	}
}

// mayBe is whether P5.1 lets a hunk be, told byte by byte.
func mayBe(h api.Hunk) bool {
	if h.At < 0 || h.At > 1<<20 || len(h.Old) > 200 || len(h.New) > 200 {
		return false
	}
	for _, line := range slices.Concat(h.Old, h.New) {
		if len(line) > 80 || strings.Contains(line, "\n") {
			return false
		}
	}
	return true
}

// changed is what P5.2 tells of Apply, line by line.
func changed(l []string, h api.Hunk) ([]string, api.Errno) {
	if !mayBe(h) {
		return nil, api.ErrArg
	}
	if h.At > len(l) {
		return nil, api.ErrApply
	}
	var out []string
	for _, line := range l[:h.At] {
		out = append(out, line)
	}
	for k, line := range h.Old {
		if h.At+k >= len(l) || l[h.At+k] != line {
			return nil, api.ErrApply
		}
	}
	for _, line := range h.New {
		out = append(out, line)
	}
	for i := h.At + len(h.Old); i < len(l); i++ {
		out = append(out, l[i])
	}
	return out, api.OK
}

// checkApply holds P5.2, and P5.4 of a hunk that is turned.
func checkApply(t *testing.T, l []string, h api.Hunk) {
	t.Helper()
	got, e := Apply(l, h)
	want, we := changed(l, h)
	if !slices.Equal(got, want) || e != we {
		t.Errorf("%q, %v: %q, error %d, not %q, error %d", l, h, got, e, want, we)
	}
	if May(h) != mayBe(h) || May(h) == (e == api.ErrArg) {
		t.Errorf("%q, %v: may %v, error %d", l, h, May(h), e)
	}
	checkTurn(t, h)
	if e != api.OK {
		return
	}
	if back, e := Apply(got, Turn(h)); e != api.OK || !slices.Equal(back, l) {
		t.Errorf("%q, %v: changed back %q, error %d", l, h, back, e)
	}
}

// P5.2: hunks that fit.
func TestApply(t *testing.T) {
	for _, x := range []struct {
		l    string
		h    api.Hunk
		want string
	}{
		// At 0, in the midst, at the end: lines that are put there.
		{"a b c", hunk(0, "", "x y"), "x y a b c"},
		{"a b c", hunk(1, "", "x y"), "a x y b c"},
		{"a b c", hunk(2, "", "x"), "a b x c"},
		{"a b c", hunk(3, "", "x y"), "a b c x y"},
		{"", hunk(0, "", "x y"), "x y"},
		// Lines that are taken away.
		{"a b c", hunk(0, "a", ""), "b c"},
		{"a b c", hunk(1, "b", ""), "a c"},
		{"a b c", hunk(2, "c", ""), "a b"},
		{"a b c", hunk(1, "b c", ""), "a"},
		{"a b c", hunk(0, "a b c", ""), ""},
		// Lines that are others: as many, fewer, more.
		{"a b c", hunk(1, "b", "x"), "a x c"},
		{"a b c", hunk(1, "b", "x y"), "a x y c"},
		{"a b c", hunk(0, "a b", "x"), "x c"},
		{"a b c", hunk(1, "b c", "x"), "a x"},
		{"a b c", hunk(2, "c", "x y z"), "a b x y z"},
		{"a b c", hunk(0, "a b c", "x y z v"), "x y z v"},
		// Some that are the same.
		{"a b c", hunk(1, "b", "b"), "a b c"},
		{"a b c", hunk(0, "a b", "a x b"), "a x b c"},
		{"a a a", hunk(1, "a", ""), "a a"},
		{"a a a", hunk(2, "a", "b"), "a a b"},
		// None at all.
		{"", hunk(0, "", ""), ""},
		{"a b c", hunk(0, "", ""), "a b c"},
		{"a b c", hunk(1, "", ""), "a b c"},
		{"a b c", hunk(3, "", ""), "a b c"},
	} {
		l := words(x.l)
		if got, e := Apply(l, x.h); e != api.OK || !slices.Equal(got, words(x.want)) {
			t.Errorf("%q, %v: %q, error %d", l, x.h, got, e)
		}
		checkApply(t, l, x.h)
	}
}

// P5.2, R4: hunks that do not stand there, or may not be; of both, that they may not be is told.
func TestApplyWhatIsWrong(t *testing.T) {
	bad := func(at int, old, now string) api.Hunk {
		return api.Hunk{At: at, Old: strings.Split(old, "|"), New: strings.Split(now, "|")}
	}
	for _, x := range []struct {
		l string
		h api.Hunk
		e api.Errno
	}{
		// Other lines stand there.
		{"a b c", hunk(0, "b", "x"), api.ErrApply},
		{"a b c", hunk(1, "a", "x"), api.ErrApply},
		{"a b c", hunk(2, "b", ""), api.ErrApply},
		{"a b c", hunk(0, "a c", ""), api.ErrApply},
		{"a b c", hunk(0, "a b x", ""), api.ErrApply},
		{"a b c", hunk(1, "c b", ""), api.ErrApply},
		{"a b c", hunk(1, "B", "x"), api.ErrApply},
		{"a b c", hunk(1, "bb", "x"), api.ErrApply},
		{"a b c", hunk(1, "x", "b"), api.ErrApply},
		{"a b c", bad(1, "", "x"), api.ErrApply},
		// More lines than stand there.
		{"a b c", hunk(0, "a b c d", ""), api.ErrApply},
		{"a b c", hunk(2, "c c", ""), api.ErrApply},
		{"a b c", hunk(3, "c", "x"), api.ErrApply},
		{"a b c", hunk(3, "a", "a"), api.ErrApply},
		{"", hunk(0, "a", ""), api.ErrApply},
		{"", bad(0, "", "x"), api.ErrApply},
		// Behind the end.
		{"a b c", hunk(4, "", ""), api.ErrApply},
		{"a b c", hunk(4, "", "x"), api.ErrApply},
		{"a b c", hunk(4, "a", "x"), api.ErrApply},
		{"", hunk(1, "", "x"), api.ErrApply},
		{"a b c", hunk(1<<20-1, "", "x"), api.ErrApply},
		{"a b c", hunk(1<<20, "", "x"), api.ErrApply},
		{"a b c", hunk(1<<20, "a", "x"), api.ErrApply},
		// It may not be, and would not fit.
		{"a b c", hunk(1<<20+1, "", "x"), api.ErrArg},
		{"a b c", hunk(-1, "", "x"), api.ErrArg},
		{"a b c", hunk(-1, "a", "x"), api.ErrArg},
		{"a b c", hunk(-3, "a b c", ""), api.ErrArg},
		{"", hunk(-1, "", ""), api.ErrArg},
		{"a b c", hunk(math.MinInt, "", ""), api.ErrArg},
		{"a b c", hunk(math.MaxInt, "", ""), api.ErrArg},
		{"a b c", hunk(math.MaxInt, "a", "x"), api.ErrArg},
		{"a b c", bad(1, "b|\n", "x"), api.ErrArg},
		{"a b c", bad(1, of(81, "b"), "x"), api.ErrArg},
		{"a b c", bad(2, "b", "x\n"), api.ErrArg},
		{"a b c", bad(9, "b", "\n"), api.ErrArg},
		{"a b c", api.Hunk{At: 1, Old: many(201, "b")}, api.ErrArg},
		{"a b c", api.Hunk{At: 4, New: many(201, "b")}, api.ErrArg},
		// It would fit, but may not be.
		{"a b c", bad(1, "b", "\n"), api.ErrArg},
		{"a b c", bad(1, "b", "x|y|z\n"), api.ErrArg},
		{"a b c", bad(0, "a|b|c", of(81, "x")), api.ErrArg},
		{"a b c", api.Hunk{At: 3, New: many(201, "x")}, api.ErrArg},
	} {
		l := words(x.l)
		if got, e := Apply(l, x.h); e != x.e || len(got) != 0 {
			t.Errorf("%q, %v: %q, error %d", l, x.h, got, e)
		}
		checkApply(t, l, x.h)
	}
	// Lines that stand there, but may not be in a hunk.
	for _, l := range [][]string{{"\n"}, {of(81, "x")}, many(201, "a")} {
		if got, e := Apply(l, api.Hunk{Old: l}); e != api.ErrArg || len(got) != 0 {
			t.Errorf("%d lines, all taken away: %d lines, error %d", len(l), len(got), e)
		}
	}
}

// P5.2, P5.4: all hunks of short lists, at all places about them.
func TestApplyToAllShortLists(t *testing.T) {
	few := short(3, "a", "b")
	for _, l := range few {
		for _, old := range few {
			for _, now := range short(2, "a", "b") {
				for at := -1; at <= len(l)+1; at++ {
					checkApply(t, l, api.Hunk{At: at, Old: old, New: now})
				}
			}
		}
	}
}

// P5.2, R1, R2: what may be and what may not, at all places, put into lists and taken from them.
func TestApplyAtAllPlaces(t *testing.T) {
	for _, p := range places {
		for _, x := range lists {
			for _, l := range [][]string{nil, words("a b c"), x.l} {
				checkApply(t, l, api.Hunk{At: p.at, New: x.l})
				checkApply(t, l, api.Hunk{At: p.at, Old: x.l})
			}
		}
	}
}

// P5.2, P5.4: the list that is changed is not bounded, nor are its lines: Apply asks only whether the hunk may be.
func TestApplyToAnyList(t *testing.T) {
	long := mixed(1<<20+2, 1000, 1)
	for _, at := range []int{0, 1, 200, 201, 1<<20 - 1, 1 << 20} {
		h := api.Hunk{At: at, Old: long[at : at+2], New: words("x y z")}
		got, e := Apply(long, h)
		if want := slices.Concat(long[:at], h.New, long[at+2:]); e != api.OK || !slices.Equal(got, want) {
			t.Errorf("At %d: %d lines, error %d", at, len(got), e)
		}
		if back, e := Apply(got, Turn(h)); e != api.OK || !slices.Equal(back, long) {
			t.Errorf("At %d: changed back %d lines, error %d", at, len(back), e)
		}
	}
	if got, e := Apply(long, api.Hunk{At: 1<<20 + 1}); e != api.ErrArg || len(got) != 0 {
		t.Errorf("At 2^20 + 1: %d lines, error %d", len(got), e)
	}
	full := many(200, "a")
	if got, e := Apply(full, api.Hunk{At: 200, New: full}); e != api.OK || !slices.Equal(got, many(400, "a")) {
		t.Errorf("to a full list: %d lines, error %d", len(got), e)
	}
	wrong := []string{"\n", "b", of(81, "x")}
	checkApply(t, wrong, hunk(1, "b", "y"))
	checkApply(t, wrong, hunk(1, "", "y"))
	checkApply(t, wrong, hunk(1, "c", "y"))
}

// checkTurn holds P5.2 of Turn.
func checkTurn(t *testing.T, h api.Hunk) {
	t.Helper()
	if got, want := Turn(h), (api.Hunk{At: h.At, Old: h.New, New: h.Old}); !equal(got, want) {
		t.Errorf("%v turned: %v", h, got)
	}
	if got := Turn(Turn(h)); !equal(got, h) {
		t.Errorf("%v turned twice: %v", h, got)
	}
}

// P5.2: Turn, also of hunks that may not be.
func TestTurn(t *testing.T) {
	if got := Turn(hunk(1, "a b", "c")); !equal(got, hunk(1, "c", "a b")) {
		t.Errorf("turned: %v", got)
	}
	if got := Turn(hunk(7, "", "x")); !equal(got, hunk(7, "x", "")) {
		t.Errorf("turned: %v", got)
	}
	for _, p := range places {
		for _, old := range lists {
			for _, now := range lists {
				checkTurn(t, api.Hunk{At: p.at, Old: old.l, New: now.l})
			}
		}
	}
}

// told are the hunks that P5.3 tells of: what stands at one's place is found from the list's other end, which the hunks ahead don't touch.
func told(a, b []string) []api.Hunk {
	var out []api.Hunk
	edits := diff.Edits(a, b)
	for k, e := range edits {
		now, _ := diff.Apply(a, edits[:k])
		at := len(now) - (len(a) - e.At)
		out = append(out, api.Hunk{At: at, Old: now[at : at+e.Old], New: e.New})
	}
	return out
}

// checkOf holds P5.3, P5.4 and P2, of lists whose lines may be, and that are no longer than a file.
func checkOf(t *testing.T, a, b []string) {
	t.Helper()
	l := Of(a, b)
	if want := told(a, b); !slices.EqualFunc(l, want, equal) {
		t.Errorf("%q to %q: %v, not %v", a, b, l, want)
	}
	steps := [][]string{a}
	cost := 0
	for k, h := range l {
		next, e := Apply(steps[k], h)
		if e != api.OK {
			t.Errorf("%q to %q: hunk %d of %v: error %d", a, b, k, l, e)
		}
		steps = append(steps, next)
		cost += len(h.Old) + len(h.New)
	}
	if got := steps[len(l)]; !slices.Equal(got, b) {
		t.Errorf("%q to %q: %v make %q", a, b, l, got)
	}
	for k, h := range slices.Backward(l) {
		if back, e := Apply(steps[k+1], Turn(h)); e != api.OK || !slices.Equal(back, steps[k]) {
			t.Errorf("%q to %q: hunk %d of %v turned: %q, error %d", a, b, k, l, back, e)
		}
	}
	if want := len(a) + len(b) - 2*lcs.Many(a, b); cost != want {
		t.Errorf("%q to %q: %v are %d lines, not %d", a, b, l, cost, want)
	}
}

// P5.3: ordinary lists, and the edges.
func TestOf(t *testing.T) {
	for _, x := range []struct {
		a, b string
		want []api.Hunk
	}{
		// The chapter's example, and back.
		{"a b c", "x a c", hunks(hunk(0, "", "x"), hunk(2, "b", ""))},
		{"x a c", "a b c", hunks(hunk(0, "x", ""), hunk(1, "", "b"))},
		// Nothing, and the same.
		{"", "", nil},
		{"a", "a", nil},
		{"a b c", "a b c", nil},
		{"a a a", "a a a", nil},
		// One list is empty.
		{"", "a b", hunks(hunk(0, "", "a b"))},
		{"a b", "", hunks(hunk(0, "a b", ""))},
		// One hunk: at 0, in the midst, at the end.
		{"a b c", "a x c", hunks(hunk(1, "b", "x"))},
		{"a b c", "x y", hunks(hunk(0, "a b c", "x y"))},
		{"a b c", "x b c", hunks(hunk(0, "a", "x"))},
		{"a b c", "a b x y", hunks(hunk(2, "c", "x y"))},
		{"a b c", "a b c x", hunks(hunk(3, "", "x"))},
		{"a b c", "a b", hunks(hunk(2, "c", ""))},
		{"a b c d", "a x d", hunks(hunk(1, "b c", "x"))},
		// Several: the later ones stand farther behind, farther ahead, or where they stood.
		{"a b c", "x y a c", hunks(hunk(0, "", "x y"), hunk(3, "b", ""))},
		{"a b c", "b c d", hunks(hunk(0, "a", ""), hunk(2, "", "d"))},
		{"a b c d e", "e f", hunks(hunk(0, "a b c d", ""), hunk(1, "", "f"))},
		{"a b c", "x b y", hunks(hunk(0, "a", "x"), hunk(2, "c", "y"))},
		{"a b c d e", "a c e", hunks(hunk(1, "b", ""), hunk(2, "d", ""))},
		{"a c e", "a b c d e", hunks(hunk(1, "", "b"), hunk(3, "", "d"))},
		{"a b c d", "x y b d z", hunks(hunk(0, "a", "x y"), hunk(3, "c", ""), hunk(4, "", "z"))},
		{"p a q b r", "a b", hunks(hunk(0, "p", ""), hunk(1, "q", ""), hunk(2, "r", ""))},
		{"a b", "p a q b r", hunks(hunk(0, "", "p"), hunk(2, "", "q"), hunk(4, "", "r"))},
		{"a b c d e f", "x y z b d e f g", hunks(hunk(0, "a", "x y z"), hunk(4, "c", ""), hunk(7, "", "g"))},
		// Which lines stay is as diff tells it.
		{"a b", "b a", hunks(hunk(0, "a", ""), hunk(1, "", "a"))},
		{"a b c d", "b d a", hunks(hunk(0, "a", ""), hunk(1, "c", ""), hunk(2, "", "a"))},
		{"a a", "a", hunks(hunk(1, "a", ""))},
	} {
		a, b := words(x.a), words(x.b)
		if l := Of(a, b); !slices.EqualFunc(l, x.want, equal) {
			t.Errorf("%q to %q: %v, not %v", a, b, l, x.want)
		}
		checkOf(t, a, b)
	}
}

// P5.3, R6: nil and empty lists are the same.
func TestOfNothing(t *testing.T) {
	for _, none := range [][]string{nil, {}} {
		for _, other := range [][]string{nil, {}} {
			if l := Of(none, other); len(l) != 0 {
				t.Errorf("%#v to %#v: %v", none, other, l)
			}
		}
		if l := Of(none, words("a b")); !slices.EqualFunc(l, hunks(hunk(0, "", "a b")), equal) {
			t.Errorf("%#v to a b: %v", none, l)
		}
		if l := Of(words("a b"), none); !slices.EqualFunc(l, hunks(hunk(0, "a b", "")), equal) {
			t.Errorf("a b to %#v: %v", none, l)
		}
		for _, h := range hunks(hunk(0, "", ""), hunk(0, "", "x")) {
			checkApply(t, none, h)
		}
	}
}

// P5.3, P5.4, P2: all pairs of short lists.
func TestOfAllShortLists(t *testing.T) {
	for _, all := range [][][]string{short(6, "a", "b"), short(4, "a", "b", "c")} {
		for _, a := range all {
			for _, b := range all {
				checkOf(t, a, b)
			}
		}
	}
}

// P5.3, P5.4: as long as a file may be.
func TestOfFullLists(t *testing.T) {
	for _, few := range []int{1, 2, 5, 100} {
		checkOf(t, mixed(200, few, 1), mixed(200, few, 2))
		checkOf(t, mixed(200, few, 3), mixed(70, few, 4))
		checkOf(t, mixed(70, few, 5), mixed(200, few, 6))
	}
	checkOf(t, many(200, of(80, "x")), many(200, of(80, "y")))
	checkOf(t, []string{"", "a", "a ", "\r", "\xff"}, []string{"a", "", "\xfe", "\r"})
}

// P5.3, R1: lists of any length, and of any lines, have hunks, also such as may not be.
func TestOfAnyLists(t *testing.T) {
	for _, x := range []struct{ a, b []string }{
		{many(201, "a"), nil},
		{nil, many(201, "a")},
		{[]string{"\n", "a", of(81, "x")}, []string{"a", "\n\n"}},
		{mixed(900, 3, 1), mixed(1000, 3, 2)},
		{nil, mixed(1<<20+9, 9, 3)},
	} {
		l := Of(x.a, x.b)
		if want := told(x.a, x.b); !slices.EqualFunc(l, want, equal) {
			t.Errorf("%d lines to %d: %d hunks, not %d, or others", len(x.a), len(x.b), len(l), len(want))
		}
	}
	if h := Of(many(201, "a"), nil); len(h) != 1 || May(h[0]) {
		t.Errorf("201 lines gone: %d hunks", len(h))
	}
}

// fewest is how many hunks of one line it takes, at least, to make each of the lists out of a, going through no others.
func fewest(a []string, all [][]string, lines []string) map[string]int {
	inside := map[string]bool{}
	for _, l := range all {
		inside[strings.Join(l, " ")] = true
	}
	steps := map[string]int{strings.Join(a, " "): 0}
	for level := []string{strings.Join(a, " ")}; len(level) > 0; {
		var next []string
		for _, s := range level {
			for _, l := range beside(words(s), lines) {
				key := strings.Join(l, " ")
				if _, seen := steps[key]; !seen && inside[key] {
					steps[key] = steps[s] + 1
					next = append(next, key)
				}
			}
		}
		level = next
	}
	return steps
}

// beside are the lists that hunks of one line make of l.
func beside(l []string, lines []string) [][]string {
	var out [][]string
	for at := range len(l) + 1 {
		for _, line := range lines {
			for _, h := range hunks(api.Hunk{At: at, New: []string{line}}, api.Hunk{At: at, Old: []string{line}}) {
				if next, e := Apply(l, h); e == api.OK {
					out = append(out, next)
				}
			}
		}
	}
	return out
}

// P2: no hunks that change a list into another one have fewer lines.
func TestNoHunksHaveFewerLines(t *testing.T) {
	lines := words("a b")
	all := short(5, lines...)
	for _, a := range all {
		steps := fewest(a, all, lines)
		for _, b := range all {
			n := 0
			for _, h := range Of(a, b) {
				n += len(h.Old) + len(h.New)
			}
			if want, seen := steps[strings.Join(b, " ")]; !seen || n != want {
				t.Errorf("%q to %q: %d lines, not %d", a, b, n, want)
			}
		}
	}
}

// marked is l with room behind it, in which a write is seen; unmarked tells whether a list is still as marked made it of was.
func marked(l []string) []string {
	return append(slices.Clone(l), "mark", "mark")[:len(l)]
}

func unmarked(l, was []string) bool {
	return slices.Equal(l[:len(was)+2], append(slices.Clone(was), "mark", "mark"))
}

// spoil writes over a list, and over the room behind it.
func spoil(l []string) {
	l = l[:cap(l)]
	for i := range l {
		l[i] = "spoilt"
	}
}

func cloned(h api.Hunk) api.Hunk {
	return api.Hunk{At: h.At, Old: slices.Clone(h.Old), New: slices.Clone(h.New)}
}

// R3: what Apply, May, Same and Turn are handed stays, its room too; what they answer is the caller's own.
func TestNothingIsShared(t *testing.T) {
	few := short(2, "a", "b")
	for _, l := range short(3, "a", "b") {
		for _, old := range append(few, []string{}, []string{"\n"}) {
			for _, now := range append(few, []string{}, []string{"\n"}) {
				for at := -1; at <= len(l)+1; at++ {
					checkOwn(t, l, api.Hunk{At: at, Old: old, New: now})
				}
			}
		}
	}
}

func checkOwn(t *testing.T, l []string, h api.Hunk) {
	t.Helper()
	l2, h2 := marked(l), api.Hunk{At: h.At, Old: marked(h.Old), New: marked(h.New)}
	stays := func(what string) {
		if !unmarked(l2, l) || !unmarked(h2.Old, h.Old) || !unmarked(h2.New, h.New) {
			t.Errorf("%q, %v: %s", l, h, what)
		}
	}
	May(h2)
	Same(h2, h2)
	got, _ := Apply(l2, h2)
	turned := Turn(h2)
	stays("changed")
	spoil(got)
	spoil(turned.Old)
	if !slices.Equal(turned.New, h.Old) {
		t.Errorf("%v turned: New changes with Old", h)
	}
	spoil(turned.New)
	stays("what is answered is a piece of what was handed in")
	got, e := Apply(l2, h2)
	turned = Turn(h2)
	spoil(l2)
	spoil(h2.Old)
	spoil(h2.New)
	if want, we := changed(l, h); !slices.Equal(got, want) || e != we {
		t.Errorf("%q, %v: what was answered changed: %q, error %d", l, h, got, e)
	}
	if !equal(turned, api.Hunk{At: h.At, Old: h.New, New: h.Old}) {
		t.Errorf("%v turned: what was answered changed: %v", h, turned)
	}
}

// R3: what Of is handed stays, its room too; what it answers shares nothing with that, nor within itself.
func TestOfSharesNothing(t *testing.T) {
	all := append(short(4, "a", "b"), mixed(150, 3, 1), mixed(200, 3, 2))
	for _, a := range all {
		for _, b := range all {
			checkOfOwn(t, a, b)
		}
	}
}

func checkOfOwn(t *testing.T, a, b []string) {
	t.Helper()
	a2, b2 := marked(a), marked(b)
	l := Of(a2, b2)
	var kept []api.Hunk
	for _, h := range l {
		kept = append(kept, cloned(h))
	}
	if !unmarked(a2, a) || !unmarked(b2, b) {
		t.Errorf("%q to %q: changed", a, b)
	}
	for k := range l {
		spoil(l[k].Old)
		kept[k].Old = slices.Clone(l[k].Old)
		if !slices.EqualFunc(l, kept, equal) {
			t.Errorf("%q to %q: Old of hunk %d is shared", a, b, k)
		}
		spoil(l[k].New)
		kept[k].New = slices.Clone(l[k].New)
		if !slices.EqualFunc(l, kept, equal) {
			t.Errorf("%q to %q: New of hunk %d is shared", a, b, k)
		}
	}
	if !unmarked(a2, a) || !unmarked(b2, b) {
		t.Errorf("%q to %q: what is answered is a piece of what was handed in", a, b)
	}
	l = Of(a2, b2)
	spoil(a2)
	spoil(b2)
	if want := told(a, b); !slices.EqualFunc(l, want, equal) {
		t.Errorf("%q to %q: what was answered changed: %v", a, b, l)
	}
}

// R3: one list handed in as all of them, and lists that overlap.
func TestOneListTwice(t *testing.T) {
	was := words("a b c a b")
	l := marked(was)
	checkOf(t, l, l)
	checkOf(t, l, l[2:])
	checkOf(t, l[:3], l[1:])
	checkApply(t, l, api.Hunk{Old: l, New: l})
	checkApply(t, l, api.Hunk{At: 3, Old: l[:2], New: l[1:4]})
	checkApply(t, l[:2], api.Hunk{At: 1, New: l[2:]})
	both := Turn(api.Hunk{Old: l, New: l})
	if !unmarked(l, was) {
		t.Errorf("changed: %q", l[:len(was)+2])
	}
	spoil(both.Old)
	if !slices.Equal(both.New, was) || !unmarked(l, was) {
		t.Errorf("both lists of a turned hunk are one")
	}
}

// R5: what is asked does not hang on what was asked ahead of it.
func TestAskedOnceMore(t *testing.T) {
	ask := func() string {
		l := Of(words("a b c d"), words("x y b d z"))
		now, e := Apply(words("a b c"), l[0])
		_, wrong := Apply(words("b"), l[0])
		return fmt.Sprint(l, now, e, wrong, Turn(l[0]), May(l[0]), Same(l[0], l[1]))
	}
	first := ask()
	if want := "[{0 [a] [x y]} {3 [c] []} {4 [] [z]}] [x y b c] 0 5 {0 [x y] [a]} true false"; first != want {
		t.Errorf("%s, not %s", first, want)
	}
	Of(words("s"), words("t u"))
	Apply(nil, hunk(-1, "a", "b"))
	if again := ask(); again != first {
		t.Errorf("%s, and then %s", first, again)
	}
}

func FuzzHunk(f *testing.F) {
	f.Add("a b c", "x a c", 1, "b", "x y")
	f.Add("a b c d", "b d a", 0, "", "x")
	f.Add("", "a", -1, "a", "")
	f.Add("a", "", 1<<20+1, "", "")
	f.Fuzz(func(t *testing.T, s, u string, at int, old, now string) {
		a, b := words(s), words(u)
		if len(a) > 200 || len(b) > 200 || !mayBe(api.Hunk{Old: a, New: b}) {
			return
		}
		checkOf(t, a, b)
		h := api.Hunk{At: at, Old: strings.Split(old, " "), New: strings.Split(now, " ")}
		checkApply(t, a, h)
		h.At = max(0, at%(len(a)+2))
		checkApply(t, a, h)
		h.Old = a[min(h.At, len(a)):]
		checkApply(t, a, h)
		checkOwn(t, a, h)
		checkOfOwn(t, a, b)
	})
}
