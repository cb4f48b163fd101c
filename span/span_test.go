package span

import (
	"math"
	"slices"
	"testing"

	"cullender/api"
)

const top = 1<<56 - 1 // the greatest random value

// trace returns the spans with these parents and levels.
func trace(ups, levels []int) []api.Span {
	l := make([]api.Span, len(ups))
	for i, up := range ups {
		l[i] = api.Span{Up: up, Level: levels[i]}
	}
	return l
}

// chain returns a trace of n spans of a level, each one the parent of the next.
func chain(n, level int) []api.Span {
	l := make([]api.Span, n)
	for i := range l {
		l[i] = api.Span{Up: i - 1, Level: level}
	}
	return l
}

// with returns a chain of n spans with s in place of the last.
func with(n int, s api.Span) []api.Span {
	l := chain(n, 0)
	l[n-1] = s
	return l
}

// yes returns n times true.
func yes(n int) []bool {
	return slices.Repeat([]bool{true}, n)
}

// valid has traces without an error, with the levels that they have after Mend.
var valid = []struct {
	name   string
	l      []api.Span
	levels []int
}{
	{"none", nil, nil},
	{"an empty list", []api.Span{}, nil},
	{"one span", trace([]int{-1}, []int{0}), []int{0}},
	{"the greatest level", trace([]int{-1}, []int{20}), []int{20}},
	{"a greater level below", trace([]int{-1, 0}, []int{0, 20}), []int{0, 20}},
	{"a lesser level below", trace([]int{-1, 0}, []int{20, 0}), []int{0, 0}},
	{"equal levels", trace([]int{-1, 0}, []int{7, 7}), []int{7, 7}},
	{"two without parents", trace([]int{-1, -1}, []int{5, 3}), []int{5, 3}},
	{"two traces in one", trace([]int{-1, -1, 0, 1}, []int{5, 3, 4, 6}), []int{4, 3, 4, 6}},
	{"three generations", trace([]int{-1, 0, 1}, []int{3, 1, 2}), []int{1, 1, 2}},
	{"the least at the end of a chain", trace([]int{-1, 0, 1, 2, 3}, []int{9, 8, 7, 6, 1}), []int{1, 1, 1, 1, 1}},
	{"the least inside a chain", trace([]int{-1, 0, 1, 2, 3}, []int{9, 8, 2, 6, 4}), []int{2, 2, 2, 4, 4}},
	{"the least of several", trace([]int{-1, 0, 0, 0}, []int{9, 5, 3, 7}), []int{3, 5, 3, 7}},
	{"the least of several, the first", trace([]int{-1, 0, 0, 0}, []int{9, 3, 5, 7}), []int{3, 3, 5, 7}},
	{"a tree", trace([]int{-1, 0, 0, 1, 1, 2, 2}, []int{9, 8, 8, 4, 6, 7, 5}), []int{4, 4, 5, 4, 6, 7, 5}},
	{"40 spans", chain(40, 20), slices.Repeat([]int{20}, 40)},
	{"40 spans, of which the last has the least level", append(chain(39, 20), api.Span{Up: 38, Level: 1}), slices.Repeat([]int{1}, 40)},
	{"40 spans, all below the first", append(append(chain(1, 20), slices.Repeat(trace([]int{0}, []int{20}), 38)...), api.Span{Up: 0, Level: 19}), append(append([]int{19}, slices.Repeat([]int{20}, 38)...), 19)},
}

// invalid has traces with the error of Check, which all functions return first.
var invalid = []struct {
	name string
	l    []api.Span
	want api.Errno
}{
	{"41 spans", chain(41, 0), api.ErrLarge},
	{"41 spans, all of them wrong", chain(41, -1), api.ErrLarge},
	{"41 spans without parents", slices.Repeat(trace([]int{-1}, []int{0}), 41), api.ErrLarge},
	{"1000 spans", chain(1000, 0), api.ErrLarge},
	{"its own parent", with(1, api.Span{Up: 0}), api.ErrArg},
	{"its own parent, the third", with(3, api.Span{Up: 2}), api.ErrArg},
	{"its own parent, the last of 40", with(40, api.Span{Up: 39}), api.ErrArg},
	{"a later parent", trace([]int{-1, 2, -1}, []int{0, 0, 0}), api.ErrArg},
	{"two that are parents of each other", trace([]int{1, 0}, []int{0, 0}), api.ErrArg},
	{"a parent that is not there", with(3, api.Span{Up: 3}), api.ErrArg},
	{"the greatest parent", with(3, api.Span{Up: math.MaxInt}), api.ErrArg},
	{"the parent -2", with(3, api.Span{Up: -2}), api.ErrArg},
	{"the parent -2 of the first", with(1, api.Span{Up: -2}), api.ErrArg},
	{"the least parent", with(3, api.Span{Up: math.MinInt}), api.ErrArg},
	{"the level 21", with(3, api.Span{Up: 0, Level: 21}), api.ErrArg},
	{"the level 21 of the first", with(1, api.Span{Up: -1, Level: 21}), api.ErrArg},
	{"the level 64", with(3, api.Span{Up: 0, Level: 64}), api.ErrArg},
	{"the greatest level", with(3, api.Span{Up: 0, Level: math.MaxInt}), api.ErrArg},
	{"the level -1", with(3, api.Span{Up: 0, Level: -1}), api.ErrArg},
	{"the level -1 without a parent", with(1, api.Span{Up: -1, Level: -1}), api.ErrArg},
	{"the least level", with(3, api.Span{Up: 0, Level: math.MinInt}), api.ErrArg},
	{"the last of 40 wrong", with(40, api.Span{Up: 0, Level: 21}), api.ErrArg},
	{"only the first wrong", trace([]int{-1, 0, 0}, []int{21, 0, 0}), api.ErrArg},
}

// P32: valid traces.
func TestCheckValid(t *testing.T) {
	for _, c := range valid {
		if err := Check(c.l); err != api.OK {
			t.Errorf("%s: Check(%v) = %d, want OK", c.name, c.l, err)
		}
	}
}

// P32: invalid traces, and of several errors the first.
func TestCheckInvalid(t *testing.T) {
	for _, c := range invalid {
		if err := Check(c.l); err != c.want {
			t.Errorf("%s: Check(%v) = %d, want %d", c.name, c.l, err, c.want)
		}
	}
}

// P32: every place of a trace may have any earlier parent, and no other.
func TestCheckParents(t *testing.T) {
	for i := range 40 {
		for up := -3; up <= 42; up++ {
			l := chain(40, 1)
			l[i].Up = up
			want := api.ErrArg
			if -1 <= up && up < i {
				want = api.OK
			}
			if err := Check(l); err != want {
				t.Errorf("Check with the parent %d at %d = %d, want %d", up, i, err, want)
			}
		}
	}
}

// P32: all other functions return the error of Check, before their own.
func TestOthersCheck(t *testing.T) {
	for _, c := range invalid {
		for _, r := range []int{0, top, -1, top + 1} {
			if got, err := Kept(c.l, r); len(got) != 0 || err != c.want {
				t.Errorf("%s: Kept(%v, %d) = %v, %d, want none, %d", c.name, c.l, r, got, err, c.want)
			}
		}
		for _, kept := range [][]bool{nil, yes(len(c.l)), yes(len(c.l) + 1)} {
			if got, err := Whole(c.l, kept); got || err != c.want {
				t.Errorf("%s: Whole(%v, %v) = %t, %d, want false, %d", c.name, c.l, kept, got, err, c.want)
			}
			if got, err := Count(c.l, kept); got != 0 || err != c.want {
				t.Errorf("%s: Count(%v, %v) = %d, %d, want 0, %d", c.name, c.l, kept, got, err, c.want)
			}
		}
		if got, err := Mend(c.l); len(got) != 0 || err != c.want {
			t.Errorf("%s: Mend(%v) = %v, %d, want none, %d", c.name, c.l, got, err, c.want)
		}
	}
}

// P33: of each level the least random value that reaches it, and the one before.
func TestKeptLevels(t *testing.T) {
	l := make([]api.Span, 21)
	for i := range l {
		l[i] = api.Span{Up: i - 1, Level: i}
	}
	for n := range l {
		// Half of the random values reach level 1, a quarter level 2.
		least := 1<<56 - 1<<(56-n)
		keepsUpTo(t, l, least, n)
		if n > 0 {
			keepsUpTo(t, l, least-1, n-1)
		}
	}
	keepsUpTo(t, l, 0, 0)
	keepsUpTo(t, l, top, 20)
}

// keepsUpTo tests that r keeps the spans of levels up to n, and no others.
func keepsUpTo(t *testing.T, l []api.Span, r, n int) {
	t.Helper()
	want := make([]bool, len(l))
	for i, s := range l {
		want[i] = s.Level <= n
	}
	if got, err := Kept(l, r); !slices.Equal(got, want) || err != api.OK {
		t.Errorf("Kept(%v, %d) = %v, %d, want %v, OK", l, r, got, err, want)
	}
}

// P33: a span is kept by its own level, whether or not its parent is.
func TestKept(t *testing.T) {
	l := trace([]int{-1, 0, 1, -1}, []int{3, 1, 2, 0})
	for _, c := range []struct {
		r    int
		want []bool
	}{
		{0, []bool{false, false, false, true}},
		{1<<55 - 1, []bool{false, false, false, true}},
		{1 << 55, []bool{false, true, false, true}},
		{3<<54 - 1, []bool{false, true, false, true}},
		{3 << 54, []bool{false, true, true, true}},
		{7 << 53, []bool{true, true, true, true}},
		{top, []bool{true, true, true, true}},
	} {
		if got, err := Kept(l, c.r); !slices.Equal(got, c.want) || err != api.OK {
			t.Errorf("Kept(%v, %d) = %v, %d, want %v, OK", l, c.r, got, err, c.want)
		}
	}
	for _, r := range []int{0, 1, top} {
		if got, err := Kept(nil, r); len(got) != 0 || err != api.OK {
			t.Errorf("Kept(nil, %d) = %v, %d, want none, OK", r, got, err)
		}
	}
}

// P33: random values out of range, also where there are no spans.
func TestKeptInvalid(t *testing.T) {
	for _, c := range valid {
		for _, r := range []int{-1, 1 << 56, 1<<56 + 1, math.MaxInt, math.MinInt} {
			if got, err := Kept(c.l, r); len(got) != 0 || err != api.ErrArg {
				t.Errorf("%s: Kept(%v, %d) = %v, %d, want none, ErrArg", c.name, c.l, r, got, err)
			}
		}
	}
}

// P34: given traces and what is kept of them.
func TestWhole(t *testing.T) {
	family := trace([]int{-1, 0, 1, 0, -1}, []int{3, 1, 2, 0, 5})
	for _, c := range []struct {
		l    []api.Span
		kept []bool
		want bool
	}{
		{nil, nil, true},
		{[]api.Span{}, []bool{}, true},
		{chain(1, 0), []bool{false}, true},
		{chain(1, 0), []bool{true}, true},
		{chain(2, 0), []bool{true, false}, true},
		{chain(2, 0), []bool{false, true}, false},
		{family, []bool{false, false, false, false, false}, true},
		{family, []bool{true, true, true, true, true}, true},
		{family, []bool{false, false, false, false, true}, true},
		{family, []bool{true, false, false, true, false}, true},
		{family, []bool{true, true, false, false, true}, true},
		{family, []bool{true, false, true, false, false}, false},
		{family, []bool{false, true, true, false, false}, false},
		{family, []bool{false, false, true, true, true}, false},
		{family, []bool{false, false, false, true, true}, false},
		{family, []bool{true, false, true, true, true}, false},
		{chain(40, 0), yes(40), true},
		{chain(40, 0), append([]bool{false}, yes(39)...), false},
		{chain(40, 0), append(yes(39), false), true},
		{chain(40, 0), append(append(yes(38), false), true), false},
	} {
		if got, err := Whole(c.l, c.kept); got != c.want || err != api.OK {
			t.Errorf("Whole(%v, %v) = %t, %d, want %t, OK", c.l, c.kept, got, err, c.want)
		}
	}
}

// P34, P36: lists of another length than the trace.
func TestLen(t *testing.T) {
	for _, c := range valid {
		for _, n := range []int{0, len(c.l) - 1, len(c.l) + 1, 41, 1000} {
			if n < 0 || n == len(c.l) {
				continue
			}
			for _, kept := range [][]bool{make([]bool, n), yes(n)} {
				if got, err := Whole(c.l, kept); got || err != api.ErrLen {
					t.Errorf("%s: Whole(%v, %v) = %t, %d, want false, ErrLen", c.name, c.l, kept, got, err)
				}
				if got, err := Count(c.l, kept); got != 0 || err != api.ErrLen {
					t.Errorf("%s: Count(%v, %v) = %d, %d, want 0, ErrLen", c.name, c.l, kept, got, err)
				}
			}
		}
	}
}

// P35: the levels of given traces, of which nothing else changes.
func TestMend(t *testing.T) {
	for _, c := range valid {
		want := make([]api.Span, len(c.l))
		for i, s := range c.l {
			want[i] = api.Span{Up: s.Up, Level: c.levels[i]}
		}
		if got, err := Mend(c.l); !slices.Equal(got, want) || err != api.OK {
			t.Errorf("%s: Mend(%v) = %v, %d, want %v, OK", c.name, c.l, got, err, want)
		}
	}
}

// each calls do with every trace of n spans with levels below levels.
func each(n, levels int, do func(l []api.Span)) {
	l := make([]api.Span, n)
	var place func(i int)
	place = func(i int) {
		if i == n {
			do(l)
			return
		}
		for up := -1; up < i; up++ {
			for level := range levels {
				l[i] = api.Span{Up: up, Level: level}
				place(i + 1)
			}
		}
	}
	place(0)
}

// below reports whether span i is span j or one of its descendants.
func below(l []api.Span, i, j int) bool {
	for i > j {
		i = l[i].Up
	}
	return i == j
}

// P35: all traces of up to 5 spans with 3 levels, compared with the minimum
// over each span and its descendants.
func TestMendAll(t *testing.T) {
	for n := range 6 {
		each(n, 3, func(l []api.Span) {
			want := slices.Clone(l)
			for j := range l {
				for i := range l {
					if below(l, i, j) {
						want[j].Level = min(want[j].Level, l[i].Level)
					}
				}
			}
			if got, err := Mend(l); !slices.Equal(got, want) || err != api.OK {
				t.Fatalf("Mend(%v) = %v, %d, want %v, OK", l, got, err, want)
			}
		})
	}
}

// P33 to P35: after Mend the kept set is closed under parents, and what was
// kept is kept still; Whole says of the trace before whether it is closed.
func TestMendedIsWhole(t *testing.T) {
	for n := range 5 {
		each(n, 3, func(l []api.Span) {
			mended, _ := Mend(l)
			for _, r := range []int{0, 1 << 55, 3 << 54, top} {
				before, _ := Kept(l, r)
				after, _ := Kept(mended, r)
				if whole, err := Whole(mended, after); !whole || err != api.OK {
					t.Fatalf("Whole(%v, %v) = %t, %d, want true, OK", mended, after, whole, err)
				}
				for i := range l {
					if before[i] && !after[i] {
						t.Fatalf("after Mend span %d of %v is not kept by %d", i, l, r)
					}
				}
				if whole, err := Whole(l, before); whole != closed(l, before) || err != api.OK {
					t.Fatalf("Whole(%v, %v) = %t, %d", l, before, whole, err)
				}
			}
		})
	}
}

// closed reports whether the ancestors of all kept spans are kept.
func closed(l []api.Span, kept []bool) bool {
	for i := range l {
		for j := range l {
			if kept[i] && !kept[j] && below(l, i, j) {
				return false
			}
		}
	}
	return true
}

// P36: given traces and what is kept of them.
func TestCount(t *testing.T) {
	l := trace([]int{-1, 0, 1, -1, 3}, []int{3, 1, 2, 0, 20})
	for _, c := range []struct {
		l    []api.Span
		kept []bool
		want int
	}{
		{nil, nil, 0},
		{[]api.Span{}, []bool{}, 0},
		{l, []bool{false, false, false, false, false}, 0},
		{l, []bool{true, false, false, false, false}, 8},
		{l, []bool{false, true, false, false, false}, 2},
		{l, []bool{false, true, true, false, false}, 6},
		{l, []bool{false, false, false, true, false}, 1},
		{l, []bool{false, false, false, false, true}, 1048576},
		{l, []bool{true, true, true, true, true}, 1048591},
		{chain(40, 0), yes(40), 40},
		{chain(40, 20), yes(40), 41943040},
		{chain(40, 20), make([]bool, 40), 0},
	} {
		if got, err := Count(c.l, c.kept); got != c.want || err != api.OK {
			t.Errorf("Count(%v, %v) = %d, %d, want %d, OK", c.l, c.kept, got, err, c.want)
		}
	}
}

// P33, P36: averaged over all random values, the count is the number of spans.
// It suffices to take one random value of each range between two thresholds.
func TestCountUnbiased(t *testing.T) {
	for _, c := range valid {
		total := 0
		for n := range 21 {
			// The random values that reach level n, but not level n + 1; the
			// last range is as long as the one before.
			r := 1<<56 - 1<<(56-n)
			length := 1 << (20 - n - 1 + n/20)
			kept, _ := Kept(c.l, r)
			count, err := Count(c.l, kept)
			if err != api.OK {
				t.Fatalf("%s: Count(%v, %v) = %d, %d", c.name, c.l, kept, count, err)
			}
			total += count * length
		}
		if total != len(c.l)<<20 {
			t.Errorf("%s: %v has the count %d / 2^20 on average", c.name, c.l, total)
		}
	}
}

// P1: no function panics, whatever its arguments, and no result comes with an error.
func TestAnything(t *testing.T) {
	numbers := []int{0, 1, 20, 21, 40, 63, 64, 1 << 55, 1 << 56, -1, -2, math.MaxInt, math.MinInt}
	traces := [][]api.Span{nil}
	for _, up := range numbers {
		for _, level := range numbers {
			s := api.Span{Up: up, Level: level}
			traces = append(traces, []api.Span{s}, []api.Span{s, s}, with(40, s), slices.Repeat([]api.Span{s}, 40), slices.Repeat([]api.Span{s}, 41))
		}
	}
	for _, l := range traces {
		bad := Check(l)
		for _, r := range numbers {
			got, err := Kept(l, r)
			if bad != api.OK && err != bad || err != api.OK && len(got) > 0 || err == api.OK && len(got) != len(l) {
				t.Errorf("Kept(%v, %d) = %v, %d", l, r, got, err)
			}
		}
		for _, n := range []int{0, 1, 2, 40, 41} {
			anyKept(t, l, make([]bool, n), bad)
			anyKept(t, l, yes(n), bad)
		}
		if got, err := Mend(l); err != bad || err != api.OK && len(got) > 0 || err == api.OK && len(got) != len(l) {
			t.Errorf("Mend(%v) = %v, %d", l, got, err)
		}
	}
}

func anyKept(t *testing.T, l []api.Span, kept []bool, bad api.Errno) {
	t.Helper()
	want := bad
	if bad == api.OK && len(l) != len(kept) {
		want = api.ErrLen
	}
	if got, err := Whole(l, kept); err != want || err != api.OK && got {
		t.Errorf("Whole(%v, %v) = %t, %d", l, kept, got, err)
	}
	if got, err := Count(l, kept); err != want || got < 0 || err != api.OK && got != 0 {
		t.Errorf("Count(%v, %v) = %d, %d", l, kept, got, err)
	}
}

// P2: the arguments stay as they are, and so does their spare capacity, even
// if the results are changed.
func TestArgumentsKept(t *testing.T) {
	whole := trace([]int{-1, 0, 1, 77, 78}, []int{3, 1, 2, 77, 78})
	all := slices.Clone(whole)
	allKept := []bool{false, true, true, true, false}
	for n := range 4 {
		l, kept := all[:n], allKept[:n]
		Check(l)
		got, _ := Kept(l, 1<<55)
		clear(got[:cap(got)])
		Whole(l, kept)
		Whole(l, allKept[:4])
		Count(l, kept)
		Count(l, allKept[:4])
		mended, _ := Mend(l)
		clear(mended[:cap(mended)])
	}
	if !slices.Equal(all, whole) || !slices.Equal(allKept, []bool{false, true, true, true, false}) {
		t.Errorf("the arguments are now %v, %v", all, allKept)
	}
}

// P2: results are new each time, share nothing with each other or with the
// arguments, and depend on the arguments alone.
func TestResultsNew(t *testing.T) {
	for range 3 {
		l := trace([]int{-1, 0, 1}, []int{3, 1, 2})
		a, _ := Mend(l)
		b, _ := Mend(l)
		some, _ := Kept(l, 3<<54)
		same, _ := Kept(l, 3<<54)
		clear(l)
		clear(a[:cap(a)])
		clear(some[:cap(some)])
		if !slices.Equal(b, trace([]int{-1, 0, 1}, []int{1, 1, 2})) {
			t.Errorf("after a change of another result: %v", b)
		}
		if !slices.Equal(same, []bool{false, true, true}) {
			t.Errorf("after a change of another result: %v", same)
		}
	}
}
