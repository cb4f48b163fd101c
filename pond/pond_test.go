package pond

import (
	"math"
	"slices"
	"testing"

	"cullender/api"
)

// full returns a reservoir of the size k that is full, with seen items offered.
func full(k, seen int) api.Pond {
	p := api.Pond{K: k, Seen: seen}
	for i := range k {
		p.Items = append(p.Items, 100+i)
	}
	return p
}

func equal(a, b api.Pond) bool {
	return a.K == b.K && a.Seen == b.Seen && slices.Equal(a.Items, b.Items)
}

// valid has reservoirs without an error.
var valid = []struct {
	name string
	p    api.Pond
}{
	{"empty, of size 1", api.Pond{K: 1}},
	{"empty, with empty items", api.Pond{K: 1, Items: []int{}}},
	{"empty, of size 16", api.Pond{K: 16}},
	{"one of one", api.Pond{K: 1, Seen: 1, Items: []int{5}}},
	{"one of two", api.Pond{K: 1, Seen: 2, Items: []int{5}}},
	{"partly filled", api.Pond{K: 3, Seen: 2, Items: []int{5, 5}}},
	{"just full", full(3, 3)},
	{"full for long", full(3, 1000)},
	{"15 of 16", api.Pond{K: 16, Seen: 15, Items: make([]int, 15)}},
	{"16 of 16", full(16, 16)},
	{"all that may be seen", full(16, 1000000000000)},
	{"any items", api.Pond{K: 2, Seen: 2, Items: []int{math.MinInt, math.MaxInt}}},
}

// invalid has reservoirs with the error of Check, which Put returns, too.
var invalid = []struct {
	name string
	p    api.Pond
	want api.Errno
}{
	{"nothing set", api.Pond{}, api.ErrArg},
	{"size -1", api.Pond{K: -1}, api.ErrArg},
	{"size -1 and as many seen", api.Pond{K: -1, Seen: -1}, api.ErrArg},
	{"size 17", api.Pond{K: 17}, api.ErrArg},
	{"size 17, full", full(17, 17), api.ErrArg},
	{"the greatest size", api.Pond{K: math.MaxInt}, api.ErrArg},
	{"the least size", api.Pond{K: math.MinInt}, api.ErrArg},
	{"-1 seen", api.Pond{K: 1, Seen: -1}, api.ErrArg},
	{"the least seen", api.Pond{K: 1, Seen: math.MinInt}, api.ErrArg},
	{"one more seen than may be", full(1, 1000000000001), api.ErrArg},
	{"the greatest seen", full(1, math.MaxInt), api.ErrArg},
	{"size 0 and an item", api.Pond{Seen: 1, Items: []int{5}}, api.ErrArg},
	{"size 17 without its items", api.Pond{K: 17, Seen: 3}, api.ErrArg},
	{"-1 seen, and an item", api.Pond{K: 1, Seen: -1, Items: []int{5}}, api.ErrArg},
	{"none seen, and an item", api.Pond{K: 1, Items: []int{5}}, api.ErrLen},
	{"one seen, and no item", api.Pond{K: 1, Seen: 1}, api.ErrLen},
	{"an item too few, partly filled", api.Pond{K: 3, Seen: 2, Items: []int{5}}, api.ErrLen},
	{"an item too many, partly filled", api.Pond{K: 3, Seen: 2, Items: []int{5, 6, 7}}, api.ErrLen},
	{"an item too few, full", api.Pond{K: 3, Seen: 9, Items: []int{5, 6}}, api.ErrLen},
	{"an item too many, full", api.Pond{K: 3, Seen: 9, Items: []int{5, 6, 7, 8}}, api.ErrLen},
	{"all items seen", api.Pond{K: 2, Seen: 9, Items: make([]int, 9)}, api.ErrLen},
	{"17 of 16 items", api.Pond{K: 16, Seen: 17, Items: make([]int, 17)}, api.ErrLen},
	{"an item too few, and no more may be seen", api.Pond{K: 2, Seen: 1000000000000, Items: []int{5}}, api.ErrLen},
}

// P24: valid reservoirs.
func TestCheckValid(t *testing.T) {
	for _, c := range valid {
		if err := Check(c.p); err != api.OK {
			t.Errorf("%s: Check(%v) = %d, want OK", c.name, c.p, err)
		}
	}
}

// P24: invalid reservoirs, and of several errors the first.
func TestCheckInvalid(t *testing.T) {
	for _, c := range invalid {
		if err := Check(c.p); err != c.want {
			t.Errorf("%s: Check(%v) = %d, want %d", c.name, c.p, err, c.want)
		}
	}
}

// P24: for each size and each number of items seen exactly one length fits.
func TestCheckLengths(t *testing.T) {
	for k := -1; k <= 18; k++ {
		for seen := -1; seen <= 20; seen++ {
			for n := 0; n <= 20; n++ {
				want := api.OK
				switch {
				case k < 1 || k > 16 || seen < 0:
					want = api.ErrArg
				case seen < k && n != seen, seen >= k && n != k:
					want = api.ErrLen
				}
				p := api.Pond{K: k, Seen: seen, Items: make([]int, n)}
				if err := Check(p); err != want {
					t.Errorf("Check of K %d, Seen %d and %d items = %d, want %d", k, seen, n, err, want)
				}
			}
		}
	}
}

// P25: an item that is appended, replaces another one, or is not stored.
func TestPut(t *testing.T) {
	for _, c := range []struct {
		name    string
		p       api.Pond
		x, draw int
		want    api.Pond
	}{
		{"the first", api.Pond{K: 1}, 7, 0, api.Pond{K: 1, Seen: 1, Items: []int{7}}},
		{"the first of 16", api.Pond{K: 16}, 7, 0, api.Pond{K: 16, Seen: 1, Items: []int{7}}},
		{"appended whatever the draw", api.Pond{K: 3, Seen: 2, Items: []int{5, 6}}, 7, 0, api.Pond{K: 3, Seen: 3, Items: []int{5, 6, 7}}},
		{"appended with the greatest draw", api.Pond{K: 3, Seen: 2, Items: []int{5, 6}}, 7, 2, api.Pond{K: 3, Seen: 3, Items: []int{5, 6, 7}}},
		{"an equal one appended", api.Pond{K: 3, Seen: 1, Items: []int{7}}, 7, 0, api.Pond{K: 3, Seen: 2, Items: []int{7, 7}}},
		{"in place of the first", full(3, 3), 7, 0, api.Pond{K: 3, Seen: 4, Items: []int{7, 101, 102}}},
		{"in place of the second", full(3, 9), 7, 1, api.Pond{K: 3, Seen: 10, Items: []int{100, 7, 102}}},
		{"in place of the last", full(3, 3), 7, 2, api.Pond{K: 3, Seen: 4, Items: []int{100, 101, 7}}},
		{"a draw of K", full(3, 3), 7, 3, full(3, 4)},
		{"a draw of more than K", full(3, 9), 7, 4, full(3, 10)},
		{"a draw of all seen", full(3, 9), 7, 9, full(3, 10)},
		{"size 1, stored", full(1, 5), 7, 0, api.Pond{K: 1, Seen: 6, Items: []int{7}}},
		{"size 1, not stored", full(1, 5), 7, 1, full(1, 6)},
		{"the last that may be seen", full(2, 999999999999), 7, 1, api.Pond{K: 2, Seen: 1000000000000, Items: []int{100, 7}}},
		{"the last, with the greatest draw", full(2, 999999999999), 7, 999999999999, full(2, 1000000000000)},
		{"the least item", full(1, 1), math.MinInt, 0, api.Pond{K: 1, Seen: 2, Items: []int{math.MinInt}}},
		{"the greatest item", api.Pond{K: 1}, math.MaxInt, 0, api.Pond{K: 1, Seen: 1, Items: []int{math.MaxInt}}},
	} {
		if got, err := Put(c.p, c.x, c.draw); !equal(got, c.want) || err != api.OK {
			t.Errorf("%s: Put(%v, %d, %d) = %v, %d, want %v, OK", c.name, c.p, c.x, c.draw, got, err, c.want)
		}
	}
}

// P25: draws out of range, and no more that may be seen.
func TestPutInvalid(t *testing.T) {
	for _, c := range []struct {
		name string
		p    api.Pond
		draw int
		want api.Errno
	}{
		{"a draw for none seen", api.Pond{K: 4}, 1, api.ErrArg},
		{"a draw too great, partly filled", api.Pond{K: 4, Seen: 1, Items: []int{5}}, 2, api.ErrArg},
		{"a draw too great, full", full(4, 4), 5, api.ErrArg},
		{"a draw too great, full for long", full(4, 1000), 1001, api.ErrArg},
		{"a negative draw, empty", api.Pond{K: 4}, -1, api.ErrArg},
		{"a negative draw, full", full(4, 1000), -1, api.ErrArg},
		{"the greatest draw", full(4, 1000), math.MaxInt, api.ErrArg},
		{"the least draw", full(4, 1000), math.MinInt, api.ErrArg},
		{"a draw too great for the last", full(4, 999999999999), 1000000000000, api.ErrArg},
		{"no more may be seen", full(4, 1000000000000), 0, api.ErrLarge},
		{"no more may be seen, a draw of all", full(4, 1000000000000), 1000000000000, api.ErrLarge},
		{"no more may be seen, a draw too great", full(4, 1000000000000), 1000000000001, api.ErrLarge},
		{"no more may be seen, a negative draw", full(4, 1000000000000), -1, api.ErrLarge},
	} {
		if got, err := Put(c.p, 7, c.draw); !equal(got, api.Pond{}) || err != c.want {
			t.Errorf("%s: Put(%v, 7, %d) = %v, %d, want none, %d", c.name, c.p, c.draw, got, err, c.want)
		}
	}
}

// P25: Put returns the error of Check, before an error of the draw.
func TestPutCheck(t *testing.T) {
	for _, c := range invalid {
		for _, draw := range []int{0, 1, -1, math.MaxInt, math.MinInt} {
			if got, err := Put(c.p, 7, draw); !equal(got, api.Pond{}) || err != c.want {
				t.Errorf("%s: Put(%v, 7, %d) = %v, %d, want none, %d", c.name, c.p, draw, got, err, c.want)
			}
		}
	}
}

// eachSample calls f with the reservoir after the items 0 to n - 1 for all draws.
func eachSample(t *testing.T, p api.Pond, n int, f func(p api.Pond)) {
	if p.Seen == n {
		f(p)
		return
	}
	for draw := 0; draw <= p.Seen; draw++ {
		next, err := Put(p, p.Seen, draw)
		if err != api.OK || Check(next) != api.OK || next.Seen != p.Seen+1 {
			t.Fatalf("Put(%v, %d, %d) = %v, %d", p, p.Seen, draw, next, err)
		}
		eachSample(t, next, n, f)
	}
}

// P25: over all draws, each set of K items is the sample equally often.
func TestPutFair(t *testing.T) {
	for k := 1; k <= 4; k++ {
		for n := 0; n <= 7; n++ {
			counts := map[int]int{}
			all := 0
			eachSample(t, api.Pond{K: k}, n, func(p api.Pond) {
				set := 0
				for _, item := range p.Items {
					set |= 1 << item
				}
				counts[set]++
				all++
			})
			// The number of sets of min(k, n) of n items.
			sets := 1
			for i := range min(k, n) {
				sets = sets * (n - i) / (i + 1)
			}
			if len(counts) != sets {
				t.Errorf("%d of %d: %d samples, want %d", k, n, len(counts), sets)
			}
			for set, count := range counts {
				if count*sets != all {
					t.Errorf("%d of %d: the sample %b %d times of %d, want the same for all %d", k, n, set, count, all, sets)
				}
			}
		}
	}
}

// P1: no function panics, whatever its arguments, and no result comes with an error.
func TestAnything(t *testing.T) {
	numbers := []int{0, 1, 2, 15, 16, 17, 999999999999, 1000000000000, 1000000000001, -1, math.MaxInt, math.MinInt}
	for _, k := range numbers {
		for _, seen := range numbers {
			for _, n := range []int{0, 1, 2, 15, 16, 17, 100} {
				p := api.Pond{K: k, Seen: seen, Items: make([]int, n)}
				for _, draw := range numbers {
					got, err := Put(p, 7, draw)
					if err != api.OK && !equal(got, api.Pond{}) {
						t.Errorf("Put(%v, 7, %d) = %v, %d", p, draw, got, err)
					}
					if err == api.OK && Check(got) != api.OK {
						t.Errorf("Put(%v, 7, %d) = %v, which is not valid", p, draw, got)
					}
				}
			}
		}
	}
}

// overwrite changes all of l, with its spare capacity.
func overwrite(l []int) {
	l = l[:cap(l)]
	for i := range l {
		l[i] = -5
	}
}

// P2: the argument stays as it is, also its spare capacity, even if the result
// is changed.
func TestArgumentsKept(t *testing.T) {
	for _, seen := range []int{0, 1, 2, 3, 9} {
		for draw := -1; draw <= seen+1; draw++ {
			all := []int{5, 6, 7, 77, 78, 79}
			p := api.Pond{K: 3, Seen: seen, Items: all[:min(3, seen)]}
			Check(p)
			got, _ := Put(p, 8, draw)
			overwrite(got.Items)
			if !slices.Equal(all, []int{5, 6, 7, 77, 78, 79}) {
				t.Errorf("after Put of %d seen with the draw %d: %v", seen, draw, all)
			}
		}
	}
}

// P2: the argument is not kept: a result stays as it is when the argument changes.
func TestArgumentsNotRetained(t *testing.T) {
	for draw := 0; draw <= 3; draw++ {
		p := full(3, 3)
		got, _ := Put(p, 7, draw)
		before := slices.Clone(got.Items)
		overwrite(p.Items)
		if !slices.Equal(got.Items, before) {
			t.Errorf("draw %d: %v became %v", draw, before, got.Items)
		}
	}
}

// P2: results are new each time, and depend on the arguments alone.
func TestResultsNew(t *testing.T) {
	p := full(3, 3)
	for range 3 {
		stored, _ := Put(p, 7, 1)
		passed, _ := Put(p, 7, 3)
		overwrite(stored.Items)
		if !equal(passed, full(3, 4)) {
			t.Errorf("after a change of another result: %v", passed)
		}
		again, _ := Put(p, 7, 1)
		if !slices.Equal(again.Items, []int{100, 7, 102}) {
			t.Errorf("Put again: %v", again)
		}
		overwrite(passed.Items)
		overwrite(again.Items)
	}
}
