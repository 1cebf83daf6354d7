package diff

import (
	"fmt"
	"math"
	"math/big"
	"slices"
	"strconv"
	"strings"
	"testing"

	"quiltmaker/api"
	"quiltmaker/lcs"
)

// words is a list of the words of s.
func words(s string) []string { return strings.Fields(s) }

func edit(at, old int, now string) api.Edit {
	return api.Edit{At: at, Old: old, New: words(now)}
}

func edits(l ...api.Edit) []api.Edit { return l }

func sameEdit(x, y api.Edit) bool {
	return x.At == y.At && x.Old == y.Old && slices.Equal(x.New, y.New)
}

func same(l, m []api.Edit) bool { return slices.EqualFunc(l, m, sameEdit) }

// short are all lists of at most n lines, each a or b or one of the letters behind them, as many as are asked for.
func short(n, letters int) [][]string {
	all, from := [][]string{nil}, 0
	for range n {
		end := len(all)
		for _, l := range all[from:end] {
			for c := range letters {
				all = append(all, append(slices.Clone(l), string(rune('a'+c))))
			}
		}
		from = end
	}
	return all
}

// mixed is a list of n lines of some few, the same for the same seed.
func mixed(n, few, seed int) []string {
	l := make([]string, n)
	x := uint64(seed)*2 + 1
	for i := range l {
		x = x*6364136223846793005 + 1442695040888963407
		l[i] = strconv.Itoa(int(x>>33) % few)
	}
	return l
}

// told are the edits that P4.1 tells of: one for each gap that has a line, ahead of a pair or behind the last one.
func told(a, b []string) []api.Edit {
	pairs := lcs.Pairs(a, b)
	var l []api.Edit
	for k := range len(pairs) + 1 {
		begin, end := [2]int{0, 0}, [2]int{len(a), len(b)}
		if k > 0 {
			begin = [2]int{pairs[k-1][0] + 1, pairs[k-1][1] + 1}
		}
		if k < len(pairs) {
			end = pairs[k]
		}
		if begin != end {
			l = append(l, api.Edit{At: begin[0], Old: end[0] - begin[0], New: b[begin[1]:end[1]]})
		}
	}
	return l
}

// checkEdits holds P4.1 and P4.3.
func checkEdits(t *testing.T, a, b []string) {
	t.Helper()
	l := Edits(a, b)
	if want := told(a, b); !same(l, want) {
		t.Errorf("%q to %q: edits %v, not %v", a, b, l, want)
	}
	if got, ok := Apply(a, l); !ok || !slices.Equal(got, b) {
		t.Errorf("%q to %q: edits %v applied: %q, %v", a, b, l, got, ok)
	}
	if n, want := Cost(l), len(a)+len(b)-2*lcs.Many(a, b); n != want {
		t.Errorf("%q to %q: edits %v cost %d, not %d", a, b, l, n, want)
	}
	checkBetween(t, a, b, l)
}

// checkBetween holds that between two edits there is a line that stays, and that none changes nothing.
func checkBetween(t *testing.T, a, b []string, l []api.Edit) {
	t.Helper()
	moved := 0
	for k, e := range l {
		if e.Old == 0 && len(e.New) == 0 {
			t.Errorf("%q to %q: edit %d of %v has no line", a, b, k, l)
		}
		if k > 0 {
			end := l[k-1].At + l[k-1].Old
			if e.At <= end || a[end] != b[end+moved] {
				t.Errorf("%q to %q: no line stays ahead of edit %d of %v", a, b, k, l)
			}
		}
		moved += len(e.New) - e.Old
	}
}

// P4.1: ordinary lists, and the edges.
func TestEdits(t *testing.T) {
	for _, x := range []struct {
		a, b string
		want []api.Edit
	}{
		// The chapter's example, and back.
		{"a b c", "a x c", edits(edit(1, 1, "x"))},
		{"a x c", "a b c", edits(edit(1, 1, "b"))},
		// Nothing, and the same.
		{"", "", nil},
		{"a", "a", nil},
		{"a b c", "a b c", nil},
		{"a a a", "a a a", nil},
		// One list is empty.
		{"", "a", edits(edit(0, 0, "a"))},
		{"a", "", edits(edit(0, 1, ""))},
		{"", "a b c", edits(edit(0, 0, "a b c"))},
		{"a b c", "", edits(edit(0, 3, ""))},
		// No line in common: one stretch, as long as can be.
		{"a", "x", edits(edit(0, 1, "x"))},
		{"a b c", "x y", edits(edit(0, 3, "x y"))},
		{"a b", "x y z", edits(edit(0, 2, "x y z"))},
		// Ahead of the first pair: lines of both, of a, of b.
		{"a b c", "x c", edits(edit(0, 2, "x"))},
		{"a b c", "c", edits(edit(0, 2, ""))},
		{"c", "x y c", edits(edit(0, 0, "x y"))},
		// Behind the last one.
		{"a b c", "a x", edits(edit(1, 2, "x"))},
		{"a b c", "a", edits(edit(1, 2, ""))},
		{"a", "a x y", edits(edit(1, 0, "x y"))},
		// Between two.
		{"a b c d", "a x d", edits(edit(1, 2, "x"))},
		{"a b c d", "a d", edits(edit(1, 2, ""))},
		{"a d", "a x y d", edits(edit(1, 0, "x y"))},
		// Several, told by their places in a, though b's have moved.
		{"a b c", "x a c y", edits(edit(0, 0, "x"), edit(1, 1, ""), edit(3, 0, "y"))},
		{"a b c", "x b y", edits(edit(0, 1, "x"), edit(2, 1, "y"))},
		{"a b c d e", "a c e", edits(edit(1, 1, ""), edit(3, 1, ""))},
		{"a c e", "a b c d e", edits(edit(1, 0, "b"), edit(2, 0, "d"))},
		{"a b c d", "x y b d z", edits(edit(0, 1, "x y"), edit(2, 1, ""), edit(4, 0, "z"))},
		{"p a q b r", "a b", edits(edit(0, 1, ""), edit(2, 1, ""), edit(4, 1, ""))},
		{"a b", "p a q b r", edits(edit(0, 0, "p"), edit(1, 0, "q"), edit(2, 0, "r"))},
		// Pairs right behind one another have no stretch between them.
		{"a b c x", "a b c", edits(edit(3, 1, ""))},
		{"x a b c", "a b c", edits(edit(0, 1, ""))},
		{"a b c d e f", "a b x e f", edits(edit(2, 2, "x"))},
		// Which lines stay is as lcs pairs them.
		{"a b", "b a", edits(edit(0, 1, ""), edit(2, 0, "a"))},
		{"a b c d", "b d a", edits(edit(0, 1, ""), edit(2, 1, ""), edit(4, 0, "a"))},
		{"a a", "a", edits(edit(1, 1, ""))},
		{"a", "a a", edits(edit(1, 0, "a"))},
		{"a a b", "a b", edits(edit(1, 1, ""))},
		{"a b", "a a b", edits(edit(1, 0, "a"))},
	} {
		a, b := words(x.a), words(x.b)
		if l := Edits(a, b); !same(l, x.want) {
			t.Errorf("%q to %q: %v, not %v", a, b, l, x.want)
		}
		checkEdits(t, a, b)
	}
}

// P4.1, R6: nil and empty lists are the same.
func TestEditsOfNothing(t *testing.T) {
	for _, none := range [][]string{nil, {}} {
		for _, other := range [][]string{nil, {}} {
			if l := Edits(none, other); len(l) != 0 {
				t.Errorf("%#v to %#v: %v", none, other, l)
			}
		}
		if l := Edits(none, words("a b")); !same(l, edits(edit(0, 0, "a b"))) {
			t.Errorf("%#v to a b: %v", none, l)
		}
		if l := Edits(words("a b"), none); !same(l, edits(edit(0, 2, ""))) {
			t.Errorf("a b to %#v: %v", none, l)
		}
	}
}

// P4.1: lines are the same byte by byte, and may be any: this layer bounds none.
func TestEditsOfOddLines(t *testing.T) {
	long := strings.Repeat("a", 100000)
	odd := []string{"", "a", "A", "a ", "\n", "a\n", "\xff", "\xfe", "\x00", long, long + "a"}
	for i, x := range odd {
		for j, y := range odd {
			l := Edits([]string{x}, []string{y})
			if i == j && len(l) != 0 || i != j && !same(l, edits(api.Edit{Old: 1, New: []string{y}})) {
				t.Errorf("line %d to line %d: %d edits", i, j, len(l))
			}
		}
	}
	checkEdits(t, odd, nil)
	checkEdits(t, nil, odd)
	checkEdits(t, odd[2:7], odd)
	checkEdits(t, []string{"ab", "c"}, []string{"a", "bc"})
	checkEdits(t, []string{""}, []string{"", ""})
}

// P4.1, P4.3: all pairs of short lists.
func TestEditsOfAllShortLists(t *testing.T) {
	for _, all := range [][][]string{short(6, 2), short(4, 3)} {
		for _, a := range all {
			for _, b := range all {
				checkEdits(t, a, b)
			}
		}
	}
}

// P4.1, P4.3: as long as a file may be, and longer.
func TestEditsOfLongLists(t *testing.T) {
	for _, few := range []int{1, 2, 5, 100} {
		checkEdits(t, mixed(200, few, 1), mixed(200, few, 2))
		checkEdits(t, mixed(600, few, 3), mixed(250, few, 4))
		checkEdits(t, mixed(250, few, 5), mixed(600, few, 6))
	}
	long := mixed(300000, 1000, 7)
	if l := Edits(long, nil); !same(l, edits(edit(0, len(long), ""))) {
		t.Errorf("a long list to nothing: %d edits", len(l))
	}
	if l := Edits(nil, long); len(l) != 1 || l[0].At != 0 || l[0].Old != 0 || !slices.Equal(l[0].New, long) {
		t.Errorf("nothing to a long list: %d edits", len(l))
	}
	few := words("none 1 none")
	if got, ok := Apply(long, Edits(long, few)); !ok || !slices.Equal(got, few) {
		t.Errorf("a long list to a short one: %q, %v", got, ok)
	}
}

// each hands out all lists of edits that fit n lines, from the place least on, each with one of news.
func each(ahead []api.Edit, least, n int, news [][]string, yield func([]api.Edit)) {
	yield(ahead)
	for at := least; at <= n; at++ {
		for old := 0; at+old <= n; old++ {
			for _, now := range news {
				l := append(slices.Clone(ahead), api.Edit{At: at, Old: old, New: now})
				each(l, at+old+1, n, news, yield)
			}
		}
	}
}

// P4.3, P2: of all edits that change a list into another one, none cost less than those that are told.
func TestNothingCostsLess(t *testing.T) {
	all := short(3, 2)
	for _, a := range all {
		least := map[string]int{}
		each(nil, 0, len(a), all, func(l []api.Edit) {
			got, ok := Apply(a, l)
			if !ok {
				t.Fatalf("%q, %v: false", a, l)
			}
			n, key := Cost(l), strings.Join(got, " ")
			if m, seen := least[key]; !seen || n < m {
				least[key] = n
			}
		})
		for _, b := range all {
			want, seen := least[strings.Join(b, " ")]
			if n := Cost(Edits(a, b)); !seen || n != want {
				t.Errorf("%q to %q: edits cost %d, others %d", a, b, n, want)
			}
		}
	}
}

// fit is whether P4.2 lets edits change n lines, told by numbers that do not wrap around.
func fit(l []api.Edit, n int) bool {
	end := big.NewInt(-1)
	for _, e := range l {
		at, old := big.NewInt(int64(e.At)), big.NewInt(int64(e.Old))
		if at.Cmp(end) <= 0 || old.Sign() < 0 {
			return false
		}
		end = at.Add(at, old)
		if end.Cmp(big.NewInt(int64(n))) > 0 {
			return false
		}
	}
	return true
}

// checkApply holds P4.2 of Apply: the last edit is done first, so that the places of a still hold for those ahead.
func checkApply(t *testing.T, a []string, l []api.Edit) {
	t.Helper()
	got, ok := Apply(a, l)
	if want := fit(l, len(a)); ok != want {
		t.Errorf("%q, %v: %v", a, l, ok)
		return
	}
	var want []string
	if ok {
		want = slices.Clone(a)
		for _, e := range slices.Backward(l) {
			want = slices.Replace(want, e.At, e.At+e.Old, e.New...)
		}
	}
	if !slices.Equal(got, want) {
		t.Errorf("%q, %v: %q, not %q", a, l, got, want)
	}
}

// P4.2: edits that fit.
func TestApply(t *testing.T) {
	for _, x := range []struct {
		a    string
		l    []api.Edit
		want string
	}{
		{"", nil, ""},
		{"", edits(), ""},
		{"a b c", nil, "a b c"},
		{"a b c", edits(), "a b c"},
		// The chapter's example.
		{"a b c", edits(edit(1, 1, "x")), "a x c"},
		// At 0, at the end, in the midst: lines put there, gone, others.
		{"a b c", edits(edit(0, 0, "x y")), "x y a b c"},
		{"a b c", edits(edit(3, 0, "x y")), "a b c x y"},
		{"a b c", edits(edit(2, 0, "x y")), "a b x y c"},
		{"a b c", edits(edit(0, 1, "")), "b c"},
		{"a b c", edits(edit(2, 1, "")), "a b"},
		{"a b c", edits(edit(1, 1, "")), "a c"},
		{"a b c", edits(edit(0, 2, "x")), "x c"},
		{"a b c", edits(edit(1, 2, "x")), "a x"},
		{"a b c", edits(edit(0, 3, "")), ""},
		{"a b c", edits(edit(0, 3, "x y z v")), "x y z v"},
		{"", edits(edit(0, 0, "x")), "x"},
		// Edits that change nothing.
		{"", edits(edit(0, 0, "")), ""},
		{"a b c", edits(edit(0, 0, "")), "a b c"},
		{"a b c", edits(edit(3, 0, "")), "a b c"},
		{"a b c", edits(edit(1, 1, "b")), "a b c"},
		// Several: places are those of a, however many lines are there by then.
		{"a b c", edits(edit(0, 1, ""), edit(2, 1, "")), "b"},
		{"a b c", edits(edit(0, 0, "x y z"), edit(2, 1, "v")), "x y z a b v"},
		{"a b c", edits(edit(0, 1, "x y"), edit(3, 0, "z")), "x y b c z"},
		{"a b", edits(edit(0, 0, "x"), edit(1, 0, "y"), edit(2, 0, "z")), "x a y b z"},
		{"a b c d e", edits(edit(0, 1, ""), edit(2, 1, "x"), edit(4, 1, "y z")), "b x d y z"},
		// Right behind the one ahead, but for one line.
		{"a b c", edits(edit(0, 0, "x"), edit(1, 0, "y")), "x a y b c"},
		{"a b c", edits(edit(0, 2, "x"), edit(3, 0, "y")), "x c y"},
		{"a b c", edits(edit(1, 0, ""), edit(2, 1, "")), "a b"},
	} {
		a := words(x.a)
		if got, ok := Apply(a, x.l); !ok || !slices.Equal(got, words(x.want)) {
			t.Errorf("%q, %v: %q, %v", a, x.l, got, ok)
		}
		checkApply(t, a, x.l)
	}
}

// P4.2: edits that do not fit: false, and nothing.
func TestApplyWhatDoesNotFit(t *testing.T) {
	good := edit(0, 0, "x")
	for _, x := range []struct {
		a string
		l []api.Edit
	}{
		// It begins ahead of the end of the one ahead.
		{"a b c", edits(edit(0, 2, "x"), edit(1, 1, "y"))},
		{"a b c", edits(edit(1, 1, ""), edit(0, 1, ""))},
		{"a b c", edits(edit(2, 0, "x"), edit(1, 0, "y"))},
		{"a b c", edits(edit(3, 0, "x"), edit(0, 0, "y"))},
		{"a b c", edits(edit(0, 3, ""), edit(0, 3, ""))},
		// Right there.
		{"a b c", edits(edit(0, 1, ""), edit(1, 1, ""))},
		{"a b c", edits(edit(0, 1, ""), edit(1, 0, ""))},
		{"a b c", edits(edit(1, 0, "x"), edit(1, 0, "y"))},
		{"a b c", edits(edit(0, 0, "x"), edit(0, 1, "y"))},
		{"a b c", edits(edit(0, 0, ""), edit(0, 0, ""))},
		{"a b c", edits(edit(3, 0, "x"), edit(3, 0, "y"))},
		{"", edits(edit(0, 0, "x"), edit(0, 0, "y"))},
		// The last one of several.
		{"a b c", edits(good, edit(1, 0, ""), edit(2, 1, ""), edit(3, 0, "y"))},
		{"a b c d", edits(good, edit(1, 1, ""), edit(2, 1, ""))},
		{"a b c d", edits(good, edit(3, 1, ""), edit(1, 1, ""))},
		// Below 0.
		{"a b c", edits(edit(-1, 0, ""))},
		{"a b c", edits(edit(-1, 1, ""))},
		{"a b c", edits(edit(-1, 2, "x"))},
		{"a b c", edits(edit(-3, 3, "x"))},
		{"", edits(edit(-1, 0, "x"))},
		{"a b c", edits(good, edit(-1, 2, ""))},
		{"a b c", edits(edit(math.MinInt, 0, ""))},
		{"a b c", edits(edit(math.MinInt, math.MinInt, ""))},
		{"a b c", edits(edit(math.MinInt, math.MaxInt, ""))},
		// Behind the end of the list.
		{"a b c", edits(edit(4, 0, ""))},
		{"a b c", edits(edit(4, 0, "x"))},
		{"a b c", edits(good, edit(4, 0, "x"))},
		{"", edits(edit(1, 0, "x"))},
		{"a b c", edits(edit(math.MaxInt, 0, ""))},
		// It ends behind it.
		{"a b c", edits(edit(0, 4, ""))},
		{"a b c", edits(edit(2, 2, "x"))},
		{"a b c", edits(edit(3, 1, "x"))},
		{"a b c", edits(good, edit(2, 2, ""))},
		{"", edits(edit(0, 1, ""))},
		// Old is below 0.
		{"a b c", edits(edit(0, -1, ""))},
		{"a b c", edits(edit(1, -1, "x"))},
		{"a b c", edits(edit(3, -1, ""))},
		{"a b c", edits(edit(4, -1, ""))},
		{"a b c", edits(good, edit(2, -1, ""))},
		{"a b c", edits(edit(1, math.MinInt, ""))},
		// The sum of both wraps around.
		{"a b c", edits(edit(1, math.MaxInt, ""))},
		{"a b c", edits(edit(3, math.MaxInt, "x"))},
		{"a b c", edits(edit(3, math.MaxInt-2, "x"))},
		{"a b c", edits(edit(0, math.MaxInt, ""))},
		{"a b c", edits(edit(math.MaxInt, 1, ""))},
		{"a b c", edits(edit(math.MaxInt, math.MaxInt, ""))},
		{"a b c", edits(edit(math.MinInt, -1, ""))},
		{"a b c", edits(good, edit(2, math.MaxInt, ""))},
		{"a b c", edits(edit(1, math.MaxInt, ""), edit(2, 0, ""))},
	} {
		a := words(x.a)
		if got, ok := Apply(a, x.l); ok || len(got) != 0 {
			t.Errorf("%q, %v: %q, %v", a, x.l, got, ok)
		}
		checkApply(t, a, x.l)
	}
}

// P4.2, R1: all edits of which the numbers are small, or at the ends of what numbers are; one alone, and two.
func TestApplyAtAllPlaces(t *testing.T) {
	numbers := []int{math.MinInt, math.MinInt + 1, -2, -1, 0, 1, 2, 3, 4, math.MaxInt - 2, math.MaxInt - 1, math.MaxInt}
	var one []api.Edit
	for _, at := range numbers {
		for _, old := range numbers {
			one = append(one, edit(at, old, "x y"))
		}
	}
	for n := range 4 {
		a := words("a b c")[:n]
		for _, e := range one {
			checkApply(t, a, edits(e))
			e.New = nil
			for _, f := range one {
				checkApply(t, a, edits(e, f))
			}
		}
	}
}

// P4.2: all edits that fit short lists.
func TestApplyAllThatFit(t *testing.T) {
	news := [][]string{nil, words("x"), words("y z")}
	for n := range 5 {
		a := words("a b c d")[:n]
		each(nil, 0, n, news, func(l []api.Edit) { checkApply(t, a, l) })
	}
}

// P4.2, R1: many edits, and a long list.
func TestApplyManyEdits(t *testing.T) {
	a := mixed(100000, 50, 1)
	var l []api.Edit
	var want []string
	for i := 0; i < len(a); i += 2 {
		l = append(l, api.Edit{At: i, Old: 1, New: words("x y")})
		want = append(want, "x", "y", a[i+1])
	}
	if got, ok := Apply(a, l); !ok || !slices.Equal(got, want) {
		t.Errorf("%d lines, %v", len(got), ok)
	}
	if n := Cost(l); n != 150000 {
		t.Errorf("cost %d", n)
	}
	l = append(l, api.Edit{At: len(a) - 1})
	if got, ok := Apply(a, l); ok || len(got) != 0 {
		t.Errorf("with one right behind: %d lines, %v", len(got), ok)
	}
}

// P4.2, R7: what edits cost, also such as fit no list.
func TestCost(t *testing.T) {
	for _, x := range []struct {
		l    []api.Edit
		want int
	}{
		{nil, 0},
		{edits(), 0},
		{edits(edit(0, 0, "")), 0},
		{edits(edit(7, 0, "")), 0},
		{edits(edit(1, 1, "x")), 2},
		{edits(edit(1, 3, "")), 3},
		{edits(edit(1, 0, "x y z v")), 4},
		{edits(edit(0, 0, "x"), edit(1, 1, ""), edit(3, 2, "y z")), 6},
		{edits(edit(0, 2, "x"), edit(0, 2, "x"), edit(-5, 2, "x")), 9},
		{edits(edit(math.MaxInt, 1, ""), edit(math.MinInt, 0, "x")), 2},
		// An Old below 0 is added up as it is.
		{edits(edit(0, -1, "")), -1},
		{edits(edit(0, -1, "x")), 0},
		{edits(edit(0, 5, ""), edit(0, -7, "x")), -1},
		// Sums wrap around, within an edit, and from one to the next.
		{edits(edit(0, math.MaxInt, "")), math.MaxInt},
		{edits(edit(0, math.MinInt, "")), math.MinInt},
		{edits(edit(0, math.MaxInt, "x")), math.MinInt},
		{edits(edit(0, math.MaxInt, "x y z")), math.MinInt + 2},
		{edits(edit(0, math.MaxInt, ""), edit(0, 0, "x")), math.MinInt},
		{edits(edit(0, math.MaxInt, ""), edit(0, math.MaxInt, "")), -2},
		{edits(edit(0, math.MinInt, ""), edit(0, math.MinInt, "")), 0},
		{edits(edit(0, math.MinInt, ""), edit(0, -1, "")), math.MaxInt},
		{edits(edit(0, math.MaxInt, "x"), edit(0, math.MinInt, "y")), 1},
	} {
		if n := Cost(x.l); n != x.want {
			t.Errorf("%v: %d, not %d", x.l, n, x.want)
		}
	}
}

// marked is l with room behind it, in which a write is seen.
func marked(l []string) []string {
	return append(slices.Clone(l), "mark", "mark")[:len(l)]
}

// unmarked tells whether l is as marked made it of was, its room too.
func unmarked(l, was []string) bool {
	return slices.Equal(l[:len(was)+2], append(slices.Clone(was), "mark", "mark"))
}

// spoil writes over a list, and over the room behind it.
func spoil(l []string) {
	l = l[:cap(l)]
	for i := range l {
		l[i] = "spoilt"
	}
}

func cloned(l []api.Edit) []api.Edit {
	l = slices.Clone(l)
	for k := range l {
		l[k].New = slices.Clone(l[k].New)
	}
	return l
}

// R3: what Edits is handed stays, its room too; what it answers shares nothing with that, nor within itself.
func TestEditsShareNothing(t *testing.T) {
	all := append(short(4, 2), mixed(150, 3, 1), mixed(200, 3, 2))
	for _, a := range all {
		for _, b := range all {
			checkEditsOwn(t, a, b)
		}
	}
}

func checkEditsOwn(t *testing.T, a, b []string) {
	t.Helper()
	a2, b2 := marked(a), marked(b)
	l := Edits(a2, b2)
	kept := cloned(l)
	if !unmarked(a2, a) || !unmarked(b2, b) {
		t.Errorf("%q to %q: changed", a, b)
	}
	for k := range l {
		spoil(l[k].New)
		kept[k].New = slices.Clone(l[k].New)
		if !same(l, kept) {
			t.Errorf("%q to %q: New of edit %d is shared", a, b, k)
		}
	}
	if !unmarked(a2, a) || !unmarked(b2, b) {
		t.Errorf("%q to %q: what is answered is a piece of what was handed in", a, b)
	}
	l = Edits(a2, b2)
	if kept = cloned(l); !same(l, told(a, b)) {
		t.Errorf("%q to %q: others, asked once more: %v", a, b, l)
	}
	spoil(a2)
	spoil(b2)
	if !same(l, kept) {
		t.Errorf("%q to %q: what was answered changed", a, b)
	}
}

// R3: what Apply and Cost are handed stays, and what Apply answers is the caller's own.
func TestApplySharesNothing(t *testing.T) {
	news := [][]string{nil, {}, words("x"), words("y z")}
	for n := range 4 {
		a := words("a b c")[:n]
		each(nil, 0, n, news, func(l []api.Edit) { checkApplyOwn(t, a, l) })
		checkApplyOwn(t, a, edits(edit(0, 0, "x"), edit(n, 1, "y")))
		checkApplyOwn(t, a, edits(edit(-1, 0, "x")))
	}
}

func checkApplyOwn(t *testing.T, a []string, l []api.Edit) {
	t.Helper()
	mark := edit(-7, -7, "mark")
	a2, l2 := marked(a), append(slices.Clone(l), mark)[:len(l)]
	for k := range l2 {
		l2[k].New = marked(l[k].New)
	}
	stays := func() bool {
		for k := range l {
			if !unmarked(l2[k].New, l[k].New) {
				return false
			}
		}
		return unmarked(a2, a) && same(l2[:len(l)+1], append(slices.Clone(l), mark))
	}
	got, ok := Apply(a2, l2)
	kept, cost := slices.Clone(got), Cost(l2)
	if !stays() {
		t.Errorf("%q, %v: changed", a, l)
	}
	spoil(got)
	if !stays() {
		t.Errorf("%q, %v: what is answered is a piece of what was handed in", a, l)
	}
	again, ok2 := Apply(a2, l2)
	if !slices.Equal(again, kept) || ok2 != ok || Cost(l2) != cost {
		t.Errorf("%q, %v: others, asked once more", a, l)
	}
	spoil(a2)
	for k := range l2 {
		spoil(l2[k].New)
		l2[k] = mark
	}
	if !slices.Equal(again, kept) {
		t.Errorf("%q, %v: what was answered changed", a, l)
	}
}

// R3: one list handed in as all of them, and lists that overlap.
func TestOneListTwice(t *testing.T) {
	was := words("a b c a b")
	l := marked(was)
	checkEdits(t, l, l)
	checkEdits(t, l, l[2:])
	checkEdits(t, l[:3], l[1:])
	checkApply(t, l, []api.Edit{{At: 0, Old: 2, New: l}, {At: 3, Old: 1, New: l[1:3]}, {At: 5, New: l[:2]}})
	if !unmarked(l, was) {
		t.Errorf("changed: %q", l[:len(was)+2])
	}
}

// R5: what is asked does not hang on what was asked ahead of it.
func TestAskedOnceMore(t *testing.T) {
	ask := func() string {
		l := Edits(words("a b c d"), words("x b d y"))
		b, ok := Apply(words("p q r s"), l)
		return fmt.Sprint(l, b, ok, Cost(l))
	}
	first := ask()
	if want := "[{0 1 [x]} {2 1 []} {4 0 [y]}] [x q s y] true 4"; first != want {
		t.Errorf("%s, not %s", first, want)
	}
	Apply(nil, edits(edit(1, 1, "x")))
	Edits(words("s"), words("t u"))
	if again := ask(); again != first {
		t.Errorf("%s, and then %s", first, again)
	}
}

func FuzzDiff(f *testing.F) {
	f.Add("a b c", "a x c", 1, 1, 2, 0)
	f.Add("a b c d", "b d a", 0, 1, 1, 1)
	f.Add("", "a", -1, math.MaxInt, math.MinInt, -1)
	f.Fuzz(func(t *testing.T, s, u string, at, old, at2, old2 int) {
		a, b := words(s), words(u)
		if len(a) > 300 || len(b) > 300 {
			return
		}
		checkEdits(t, a, b)
		l := []api.Edit{{At: at, Old: old, New: b}, {At: at2, Old: old2, New: a}}
		checkApply(t, a, l)
		checkApply(t, a, l[1:])
		if n := len(a) + 1; at >= 0 && old >= 0 && at2 >= 0 && old2 >= 0 {
			l[0].At, l[0].Old, l[1].At, l[1].Old = at%n, old%n, at2%n, old2%n
			checkApply(t, a, l)
		}
		if Cost(l) != l[0].Old+l[1].Old+len(a)+len(b) {
			t.Errorf("%v: cost %d", l, Cost(l))
		}
	})
}
