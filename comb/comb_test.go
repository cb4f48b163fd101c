package comb

import (
	"math"
	"math/big"
	"math/bits"
	"slices"
	"testing"

	"cullender/api"
)

// rising returns n numbers from the first on.
func rising(first, n int) []int {
	var l []int
	for i := range n {
		l = append(l, first+i)
	}
	return l
}

// invalid has lists with the error of Check, which Rank returns, too.
var invalid = []struct {
	name string
	l    []int
	want api.Errno
}{
	{"31 numbers", rising(0, 31), api.ErrLarge},
	{"31 equal numbers", make([]int, 31), api.ErrLarge},
	{"31 negative numbers", rising(-40, 31), api.ErrLarge},
	{"1000 numbers", make([]int, 1000), api.ErrLarge},
	{"only -1", []int{-1}, api.ErrArg},
	{"only 30", []int{30}, api.ErrArg},
	{"30 at the end", []int{0, 29, 30}, api.ErrArg},
	{"-1 at the start", []int{-1, 0, 1}, api.ErrArg},
	{"30 numbers from 1 on", rising(1, 30), api.ErrArg},
	{"the greatest number", []int{0, math.MaxInt}, api.ErrArg},
	{"the least number", []int{math.MinInt, 0}, api.ErrArg},
	{"negative and not greater", []int{3, -1}, api.ErrArg},
	{"too great and not greater", []int{30, 30}, api.ErrArg},
	{"equal", []int{3, 3}, api.ErrForm},
	{"0 twice", []int{0, 0}, api.ErrForm},
	{"29 twice", []int{29, 29}, api.ErrForm},
	{"falling", []int{4, 3}, api.ErrForm},
	{"falling at the end", []int{0, 1, 2, 1}, api.ErrForm},
	{"falling in the middle", []int{0, 5, 4, 6}, api.ErrForm},
	{"not greater, then out of range", []int{2, 2, 30}, api.ErrForm},
	{"out of range, then not greater", []int{2, 30, 1}, api.ErrArg},
	{"30 equal numbers", make([]int, 30), api.ErrForm},
}

// P20: given binomial coefficients.
func TestWays(t *testing.T) {
	for _, c := range []struct{ n, k, want int }{
		{0, 0, 1}, {1, 0, 1}, {1, 1, 1}, {4, 0, 1}, {4, 4, 1}, {5, 2, 10}, {5, 3, 10},
		{30, 0, 1}, {30, 1, 30}, {30, 29, 30}, {30, 30, 1}, {30, 15, 155117520}, {29, 14, 77558760},
	} {
		if got, err := Ways(c.n, c.k); got != c.want || err != api.OK {
			t.Errorf("Ways(%d, %d) = %d, %d, want %d, OK", c.n, c.k, got, err, c.want)
		}
	}
}

// P20: all numbers are as computed with integers of any size, and others are errors.
func TestWaysAll(t *testing.T) {
	for n := -3; n <= 35; n++ {
		for k := -3; k <= 35; k++ {
			want, wantErr := 0, api.ErrArg
			if 0 <= n && n <= 30 && 0 <= k && k <= n {
				want, wantErr = int(new(big.Int).Binomial(int64(n), int64(k)).Int64()), api.OK
			}
			if got, err := Ways(n, k); got != want || err != wantErr {
				t.Errorf("Ways(%d, %d) = %d, %d, want %d, %d", n, k, got, err, want, wantErr)
			}
		}
	}
	for _, c := range [][2]int{
		{math.MaxInt, 0}, {math.MaxInt, math.MaxInt}, {math.MinInt, 0}, {math.MinInt, math.MinInt},
		{30, math.MaxInt}, {30, math.MinInt}, {1 << 32, 0}, {64, 64},
	} {
		if got, err := Ways(c[0], c[1]); got != 0 || err != api.ErrArg {
			t.Errorf("Ways(%d, %d) = %d, %d, want 0, ErrArg", c[0], c[1], got, err)
		}
	}
}

// P21: combinations are valid.
func TestCheck(t *testing.T) {
	for _, l := range [][]int{
		nil, {}, {0}, {29}, {0, 1}, {0, 29}, {28, 29}, {3, 7, 8, 20}, rising(0, 29), rising(1, 29), rising(0, 30),
	} {
		if err := Check(l); err != api.OK {
			t.Errorf("Check(%v) = %d, want OK", l, err)
		}
	}
}

// P21: what is not a combination, and of several errors the first.
func TestCheckInvalid(t *testing.T) {
	for _, c := range invalid {
		if err := Check(c.l); err != c.want {
			t.Errorf("%s: Check(%v) = %d, want %d", c.name, c.l, err, c.want)
		}
	}
	for a := -2; a <= 32; a++ {
		for b := -2; b <= 32; b++ {
			want := api.OK
			if a < 0 || a > 29 || b < 0 || b > 29 {
				want = api.ErrArg
			} else if b <= a {
				want = api.ErrForm
			}
			if err := Check([]int{a, b}); err != want {
				t.Errorf("Check(%d, %d) = %d, want %d", a, b, err, want)
			}
		}
	}
}

// P22: given ranks.
func TestRank(t *testing.T) {
	for _, c := range []struct {
		l    []int
		want int
	}{
		{nil, 0},
		{[]int{}, 0},
		{[]int{0}, 0},
		{[]int{7}, 7},
		{[]int{29}, 29},
		{[]int{0, 1}, 0},
		{[]int{0, 2}, 1},
		{[]int{1, 2}, 2},
		{[]int{0, 3}, 3},
		{[]int{28, 29}, 434},
		{[]int{1, 3, 5}, 1 + 3 + 10},
		{rising(0, 15), 0},
		{rising(15, 15), 155117519},
		{rising(0, 29), 0},
		{rising(1, 29), 29},
		{rising(0, 30), 0},
	} {
		if got, err := Rank(c.l); got != c.want || err != api.OK {
			t.Errorf("Rank(%v) = %d, %d, want %d, OK", c.l, got, err, c.want)
		}
	}
}

// P22: Rank returns the error of Check.
func TestRankInvalid(t *testing.T) {
	for _, c := range invalid {
		if got, err := Rank(c.l); got != 0 || err != c.want {
			t.Errorf("%s: Rank(%v) = %d, %d, want 0, %d", c.name, c.l, got, err, c.want)
		}
	}
}

// members returns the places of the bits of a set, rising.
func members(set uint) []int {
	var l []int
	for ; set != 0; set &= set - 1 {
		l = append(l, bits.TrailingZeros(set))
	}
	return l
}

// P22, P23: the ranks count the combinations in colexicographic order, which is
// the order of their sets of bits as numbers.
func TestRankAndSomeAll(t *testing.T) {
	next := make([]int, 31)
	for set := uint(0); set < 1<<15; set++ {
		l := members(set)
		rank := next[len(l)]
		next[len(l)]++
		if got, err := Rank(l); got != rank || err != api.OK {
			t.Fatalf("Rank(%v) = %d, %d, want %d, OK", l, got, err, rank)
		}
		if got, err := Some(len(l), rank); !slices.Equal(got, l) || err != api.OK {
			t.Fatalf("Some(%d, %d) = %v, %d, want %v, OK", len(l), rank, got, err, l)
		}
	}
}

// following returns the least greater number with as many bits.
func following(set uint) uint {
	low := set & -set
	up := set + low
	return up | (set^up)/low>>2
}

// P22, P23: at many ranks of each size, the next rank is that of the combination
// that follows, up to the last one; beyond it there is none.
func TestRankAndSomeSizes(t *testing.T) {
	for k := 1; k <= 30; k++ {
		all := int(new(big.Int).Binomial(30, int64(k)).Int64())
		steps := min(all-1, 3000)
		for i := range steps {
			rank := i * (all - 1) / steps
			l, err := Some(k, rank)
			if back, err2 := Rank(l); len(l) != k || back != rank || err != api.OK || err2 != api.OK {
				t.Fatalf("Some(%d, %d) = %v, %d, with the rank %d, %d", k, rank, l, err, back, err2)
			}
			set := uint(0)
			for _, n := range l {
				set |= 1 << n
			}
			next, err := Some(k, rank+1)
			if want := members(following(set)); !slices.Equal(next, want) || err != api.OK {
				t.Fatalf("Some(%d, %d) = %v, %d, want %v, which follows %v", k, rank+1, next, err, want, l)
			}
		}
		if l, err := Some(k, all-1); !slices.Equal(l, rising(30-k, k)) || err != api.OK {
			t.Errorf("Some(%d, %d) = %v, %d is not the last", k, all-1, l, err)
		}
		for _, rank := range []int{-1, all, all + 1, math.MaxInt, math.MinInt} {
			if l, err := Some(k, rank); len(l) != 0 || err != api.ErrNone {
				t.Errorf("Some(%d, %d) = %v, %d, want none, ErrNone", k, rank, l, err)
			}
		}
	}
}

// P23: given ranks, and the errors.
func TestSome(t *testing.T) {
	for _, c := range []struct {
		k, rank int
		want    []int
		err     api.Errno
	}{
		{0, 0, nil, api.OK},
		{1, 0, []int{0}, api.OK},
		{1, 29, []int{29}, api.OK},
		{2, 3, []int{0, 3}, api.OK},
		{2, 434, []int{28, 29}, api.OK},
		{15, 155117519, rising(15, 15), api.OK},
		{30, 0, rising(0, 30), api.OK},
		{-1, 0, nil, api.ErrArg},
		{31, 0, nil, api.ErrArg},
		{-1, -1, nil, api.ErrArg}, // and there is no such rank, which is listed later
		{31, -1, nil, api.ErrArg},
		{31, math.MaxInt, nil, api.ErrArg},
		{math.MaxInt, 0, nil, api.ErrArg},
		{math.MinInt, 0, nil, api.ErrArg},
		{0, 1, nil, api.ErrNone},
		{0, -1, nil, api.ErrNone},
		{1, 30, nil, api.ErrNone},
		{2, 435, nil, api.ErrNone},
		{15, 155117520, nil, api.ErrNone},
		{30, 1, nil, api.ErrNone},
	} {
		if got, err := Some(c.k, c.rank); !slices.Equal(got, c.want) || err != c.err {
			t.Errorf("Some(%d, %d) = %v, %d, want %v, %d", c.k, c.rank, got, err, c.want, c.err)
		}
	}
}

// P1: no function panics, whatever its arguments, and no result comes with an error.
func TestAnything(t *testing.T) {
	numbers := []int{0, 1, 2, 15, 29, 30, 31, 155117519, 155117520, 1 << 32, -1, math.MaxInt, math.MinInt}
	for _, a := range numbers {
		for _, b := range numbers {
			if got, err := Ways(a, b); err != api.OK && got != 0 {
				t.Errorf("Ways(%d, %d) = %d, %d", a, b, got, err)
			}
			if got, err := Some(a, b); err != api.OK && len(got) != 0 {
				t.Errorf("Some(%d, %d) = %v, %d", a, b, got, err)
			}
			for n := range 33 {
				l := append(slices.Repeat([]int{a}, n), b)
				if got, err := Rank(l); err != Check(l) || err != api.OK && got != 0 {
					t.Errorf("Rank(%v) = %d, %d", l, got, err)
				}
			}
		}
	}
}

// P2: the argument stays as it is, and so does its spare capacity.
func TestArgumentsKept(t *testing.T) {
	all := []int{3, 7, 20, 77, 78}
	Check(all[:3])
	Rank(all[:3])
	if !slices.Equal(all, []int{3, 7, 20, 77, 78}) {
		t.Errorf("the argument is now %v", all)
	}
}

// P2: results are new each time, and depend on the arguments alone.
func TestResultsNew(t *testing.T) {
	for range 3 {
		l, _ := Some(3, 14)
		other, _ := Some(3, 15)
		if !slices.Equal(l, []int{1, 3, 5}) {
			t.Errorf("Some(3, 14) = %v", l)
		}
		l = l[:cap(l)]
		for i := range l {
			l[i] = -5
		}
		if !slices.Equal(other, []int{2, 3, 5}) {
			t.Errorf("after a change of another result: %v", other)
		}
	}
}
