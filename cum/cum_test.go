package cum

import (
	"math"
	"math/big"
	"slices"
	"testing"

	"cullender/alias"
	"cullender/api"
)

// invalid has weights with their error, which Pick and Even return before
// their own.
var invalid = []struct {
	name string
	l    []int
	want api.Errno
}{
	{"41 weights", slices.Repeat([]int{1}, 41), api.ErrLarge},
	{"41 zeros", make([]int, 41), api.ErrLarge},
	{"41 weights out of range", slices.Repeat([]int{-1}, 41), api.ErrLarge},
	{"1000 weights", slices.Repeat([]int{1}, 1000), api.ErrLarge},
	{"a negative weight", []int{-1}, api.ErrArg},
	{"a negative weight at the end", []int{1, 2, -1}, api.ErrArg},
	{"a weight too great", []int{1000000000001}, api.ErrArg},
	{"a weight too great at the end", []int{1, 2, 1000000000001}, api.ErrArg},
	{"the greatest weight", []int{math.MaxInt, 1}, api.ErrArg},
	{"the least weight", []int{math.MinInt, 1}, api.ErrArg},
	{"weights whose sum wraps to 0", []int{math.MinInt, math.MinInt}, api.ErrArg},
	{"weights whose sum is 0", []int{1, -1}, api.ErrArg},
	{"zeros and a negative weight", []int{0, 0, -1}, api.ErrArg},
	{"40 weights, the last out of range", append(make([]int, 39), -1), api.ErrArg},
	{"no weights", nil, api.ErrZero},
	{"an empty list", []int{}, api.ErrZero},
	{"only 0", []int{0}, api.ErrZero},
	{"40 zeros", make([]int, 40), api.ErrZero},
}

// great returns as many weights as there may be, as great as they may be.
func great() []int {
	return slices.Repeat([]int{1000000000000}, 40)
}

// total returns the sum of the weights.
func total(l []int) int {
	all := 0
	for _, weight := range l {
		all += weight
	}
	return all
}

// next changes l to the list that follows it of those with numbers below top,
// and reports whether there is one.
func next(l []int, top int) bool {
	for i := range l {
		l[i]++
		if l[i] < top {
			return true
		}
		l[i] = 0
	}
	return false
}

// P30: given parts, and ones that are not there.
func TestPick(t *testing.T) {
	for _, c := range []struct {
		l          []int
		part, want int
		err        api.Errno
	}{
		{[]int{2, 0, 3}, 0, 0, api.OK},
		{[]int{2, 0, 3}, 1, 0, api.OK},
		{[]int{2, 0, 3}, 2, 2, api.OK},
		{[]int{2, 0, 3}, 4, 2, api.OK},
		{[]int{1}, 0, 0, api.OK},
		{[]int{0, 1}, 0, 1, api.OK},
		{[]int{1, 0}, 0, 0, api.OK},
		{[]int{0, 0, 4, 0, 1, 0}, 3, 2, api.OK},
		{[]int{0, 0, 4, 0, 1, 0}, 4, 4, api.OK},
		{[]int{3, 2, 1}, 2, 0, api.OK},
		{[]int{3, 2, 1}, 3, 1, api.OK},
		{[]int{3, 2, 1}, 4, 1, api.OK},
		{[]int{3, 2, 1}, 5, 2, api.OK},
		{great(), 0, 0, api.OK},
		{great(), 999999999999, 0, api.OK},
		{great(), 1000000000000, 1, api.OK},
		{great(), 38999999999999, 38, api.OK},
		{great(), 39000000000000, 39, api.OK},
		{great(), 39999999999999, 39, api.OK},
		{[]int{2, 0, 3}, 5, 0, api.ErrArg},
		{[]int{2, 0, 3}, 6, 0, api.ErrArg},
		{[]int{2, 0, 3}, -1, 0, api.ErrArg},
		{[]int{2, 0, 3}, math.MaxInt, 0, api.ErrArg},
		{[]int{2, 0, 3}, math.MinInt, 0, api.ErrArg},
		{[]int{1}, 1, 0, api.ErrArg},
		{[]int{0, 1}, 1, 0, api.ErrArg},
		{great(), 40000000000000, 0, api.ErrArg},
		{great(), -1, 0, api.ErrArg},
	} {
		if got, err := Pick(c.l, c.part); got != c.want || err != c.err {
			t.Errorf("Pick(%v, %d) = %d, %d, want %d, %d", c.l, c.part, got, err, c.want, c.err)
		}
	}
}

// P30: the parts of all lists of up to 4 small weights, in order, pick each
// index as often as its weight says.
func TestPickAll(t *testing.T) {
	for n := 1; n <= 4; n++ {
		l := make([]int, n)
		// The first list, of zeros, has no parts.
		for next(l, 5) {
			part := 0
			for i, weight := range l {
				for range weight {
					if got, err := Pick(l, part); got != i || err != api.OK {
						t.Fatalf("Pick(%v, %d) = %d, %d, want %d, OK", l, part, got, err, i)
					}
					part++
				}
			}
			if got, err := Pick(l, part); got != 0 || err != api.ErrArg {
				t.Fatalf("Pick(%v, %d) = %d, %d, want 0, ErrArg", l, part, got, err)
			}
		}
	}
}

// P30: the error of the weights comes first, whatever the part.
func TestPickWeights(t *testing.T) {
	for _, c := range invalid {
		for _, part := range []int{0, 1, -1, math.MaxInt, math.MinInt} {
			if got, err := Pick(c.l, part); got != 0 || err != c.want {
				t.Errorf("%s: Pick(%v, %d) = %d, %d, want 0, %d", c.name, c.l, part, got, err, c.want)
			}
		}
	}
}

// P31: given samples.
func TestEven(t *testing.T) {
	for _, c := range []struct {
		l        []int
		k, start int
		want     []int
	}{
		{[]int{1, 2, 3}, 3, 1, []int{1, 1, 1}},
		// The points are 0, 2 and 4.
		{[]int{1, 2, 3}, 3, 0, []int{1, 1, 1}},
		// The points are 5/3, 11/3 and 17/3, of which none is below 1.
		{[]int{1, 2, 3}, 3, 5, []int{0, 1, 2}},
		// The points are 0 and 5/2.
		{[]int{2, 0, 3}, 2, 0, []int{1, 0, 1}},
		// The points are 2 and 9/2: a sum equal to the point is not greater.
		{[]int{2, 0, 3}, 2, 4, []int{0, 0, 2}},
		// The points are 3/2 and 4: rounded up, the first would be in the last weight.
		{[]int{2, 0, 3}, 2, 3, []int{1, 0, 1}},
		// One point is the part start.
		{[]int{2, 0, 3}, 1, 1, []int{1, 0, 0}},
		{[]int{2, 0, 3}, 1, 2, []int{0, 0, 1}},
		// More points than parts.
		{[]int{2, 0, 3}, 10, 0, []int{4, 0, 6}},
		{[]int{2, 0, 3}, 10, 4, []int{4, 0, 6}},
		{[]int{1, 2}, 4, 0, []int{2, 2}},
		{[]int{1, 2}, 4, 1, []int{1, 3}},
		{[]int{1, 2}, 4, 2, []int{1, 3}},
		{[]int{7}, 1000, 6, []int{1000}},
		{[]int{0, 1, 0}, 1000, 0, []int{0, 1000, 0}},
		{[]int{1, 1, 1}, 1000, 0, []int{334, 333, 333}},
		{[]int{1, 1, 1}, 1000, 1, []int{333, 334, 333}},
		{[]int{1, 1, 1}, 1000, 2, []int{333, 333, 334}},
		{great(), 1000, 0, slices.Repeat([]int{25}, 40)},
		{great(), 1000, 39999999999999, slices.Repeat([]int{25}, 40)},
		{great(), 40, 39999999999999, slices.Repeat([]int{1}, 40)},
		{great(), 1, 39999999999999, append(make([]int, 39), 1)},
		{[]int{1000000000000, 1}, 1000, 0, []int{1000, 0}},
		// The last point is 1/1000 below the last weight, and then where it begins.
		{[]int{1000000000000, 1}, 1000, 999999999000, []int{1000, 0}},
		{[]int{1000000000000, 1}, 1000, 999999999001, []int{999, 1}},
		{[]int{1000000000000, 1}, 1000, 1000000000000, []int{999, 1}},
	} {
		if got, err := Even(c.l, c.k, c.start); !slices.Equal(got, c.want) || err != api.OK {
			t.Errorf("Even(%v, %d, %d) = %v, %d, want %v, OK", c.l, c.k, c.start, got, err, c.want)
		}
	}
}

// P31: numbers out of range.
func TestEvenInvalid(t *testing.T) {
	for _, c := range []struct {
		name     string
		l        []int
		k, start int
	}{
		{"no points", []int{2, 0, 3}, 0, 0},
		{"fewer than no points", []int{2, 0, 3}, -1, 0},
		{"the fewest points", []int{2, 0, 3}, math.MinInt, 0},
		{"1001 points", []int{2, 0, 3}, 1001, 0},
		{"the most points", []int{2, 0, 3}, math.MaxInt, 0},
		{"a negative start", []int{2, 0, 3}, 2, -1},
		{"the least start", []int{2, 0, 3}, 2, math.MinInt},
		{"a start of all", []int{2, 0, 3}, 2, 5},
		{"a start above all", []int{2, 0, 3}, 1000, 6},
		{"the greatest start", []int{2, 0, 3}, 2, math.MaxInt},
		{"a start of all of one weight", []int{1}, 1, 1},
		{"a start of all of 40 weights", great(), 1000, 40000000000000},
		{"neither in range", []int{2, 0, 3}, 0, 5},
	} {
		if got, err := Even(c.l, c.k, c.start); len(got) != 0 || err != api.ErrArg {
			t.Errorf("%s: Even(%v, %d, %d) = %v, %d, want none, ErrArg", c.name, c.l, c.k, c.start, got, err)
		}
	}
}

// P31: the error of the weights comes first, whatever the other numbers.
func TestEvenWeights(t *testing.T) {
	for _, c := range invalid {
		for _, k := range []int{0, 1, 2, 1000, 1001, -1, math.MaxInt, math.MinInt} {
			for _, start := range []int{0, 1, -1, math.MaxInt, math.MinInt} {
				if got, err := Even(c.l, k, start); len(got) != 0 || err != c.want {
					t.Errorf("%s: Even(%v, %d, %d) = %v, %d, want none, %d", c.name, c.l, k, start, got, err, c.want)
				}
			}
		}
	}
}

// points returns what Even should, with fractions of any size.
func points(l []int, k, start int) []int {
	all := int64(total(l))
	counts := make([]int, len(l))
	for j := range k {
		above := new(big.Int).Mul(big.NewInt(int64(j)), big.NewInt(all))
		above.Add(above, big.NewInt(int64(start)))
		point := new(big.Rat).SetFrac(above, big.NewInt(int64(k)))
		sum := new(big.Rat)
		i := -1
		for sum.Cmp(point) <= 0 {
			i++
			sum.Add(sum, new(big.Rat).SetInt64(int64(l[i])))
		}
		counts[i]++
	}
	return counts
}

// P31: any weights, points and starts, compared with fractions.
func TestEvenAny(t *testing.T) {
	x := uint64(1)
	number := func(below int) int {
		x = x*6364136223846793005 + 1442695040888963407
		return int(x>>11) % below
	}
	for n := 1; n <= 40; n++ {
		for _, top := range []int{2, 10, 1000, 1000000000001} {
			l := make([]int, n)
			for i := range l {
				l[i] = number(top)
			}
			l[number(n)] = top - 1
			all := total(l)
			for _, k := range []int{1, 2, 1 + number(1000)} {
				for _, start := range []int{0, number(all), all - 1} {
					want := points(l, k, start)
					if got, err := Even(l, k, start); !slices.Equal(got, want) || err != api.OK {
						t.Fatalf("Even(%v, %d, %d) = %v, %d, want %v, OK", l, k, start, got, err, want)
					}
				}
			}
		}
	}
}

// P31: over all starts each index is picked k times as often as its weight
// says, and with each start it differs from its share by less than 1.
func TestEvenFair(t *testing.T) {
	for n := 1; n <= 3; n++ {
		l := make([]int, n)
		for next(l, 5) {
			for k := 1; k <= 7; k++ {
				fair(t, l, k)
			}
		}
	}
}

func fair(t *testing.T, l []int, k int) {
	t.Helper()
	all := total(l)
	counts := make([]int, len(l))
	for start := range all {
		got, err := Even(l, k, start)
		if len(got) != len(l) || err != api.OK || total(got) != k {
			t.Fatalf("Even(%v, %d, %d) = %v, %d", l, k, start, got, err)
		}
		for i, count := range got {
			counts[i] += count
			if off := count*all - k*l[i]; off <= -all || off >= all {
				t.Fatalf("Even(%v, %d, %d) = %v: index %d is off its share", l, k, start, got, i)
			}
		}
	}
	for i, weight := range l {
		if counts[i] != k*weight {
			t.Fatalf("over all starts, Even(%v, %d, ...) picks %v", l, k, counts)
		}
	}
}

// P30, P31: with one point, Even picks what Pick picks.
func TestOnePoint(t *testing.T) {
	l := []int{0, 3, 0, 1, 6, 0, 2}
	for start := range total(l) {
		i, _ := Pick(l, start)
		want := make([]int, len(l))
		want[i] = 1
		if got, err := Even(l, 1, start); !slices.Equal(got, want) || err != api.OK {
			t.Errorf("Even(%v, 1, %d) = %v, %d, but Pick is %d", l, start, got, err, i)
		}
	}
}

// P1: no function panics, whatever its arguments, no result comes with an
// error, and the weights have the errors that they have in a table.
func TestAnything(t *testing.T) {
	numbers := []int{0, 1, 2, 40, 41, 1000, 1001, 1000000000000, 1000000000001, 40000000000000, -1, math.MaxInt, math.MinInt}
	lists := [][]int{nil}
	for _, n := range []int{1, 2, 40, 41} {
		for _, m := range numbers {
			lists = append(lists, slices.Repeat([]int{m}, n))
		}
	}
	for _, l := range lists {
		_, bad := alias.Make(l)
		for _, a := range numbers {
			if got, err := Pick(l, a); bad != api.OK && err != bad || err != api.OK && got != 0 || got < 0 {
				t.Errorf("Pick(%v, %d) = %d, %d", l, a, got, err)
			}
			for _, b := range numbers {
				if got, err := Even(l, a, b); bad != api.OK && err != bad || (err == api.OK) != (len(got) > 0) {
					t.Errorf("Even(%v, %d, %d) = %v, %d", l, a, b, got, err)
				}
			}
		}
	}
}

// overwrite changes all of l, with its spare capacity.
func overwrite(l []int) {
	l = l[:cap(l)]
	for i := range l {
		l[i] = -5
	}
}

// P2: the arguments stay as they are, and so does their spare capacity, even
// if the results are changed.
func TestArgumentsKept(t *testing.T) {
	all := []int{2, 0, 3, 77, 78, 79}
	l := all[:3]
	for _, k := range []int{0, 1, 2, 1000} {
		for start := -1; start <= 5; start++ {
			Pick(l, start)
			counts, _ := Even(l, k, start)
			overwrite(counts)
		}
	}
	if !slices.Equal(all, []int{2, 0, 3, 77, 78, 79}) {
		t.Errorf("the weights are now %v", all)
	}
}

// P2: results are new each time, share nothing with each other or with the
// arguments, and depend on the arguments alone.
func TestResultsNew(t *testing.T) {
	for range 3 {
		l := []int{1, 2, 3}
		a, _ := Even(l, 3, 5)
		b, _ := Even(l, 3, 5)
		overwrite(l)
		overwrite(a)
		if !slices.Equal(b, []int{0, 1, 2}) {
			t.Errorf("after a change of another result: %v", b)
		}
		if got, err := Pick([]int{1, 2, 3}, 1); got != 1 || err != api.OK {
			t.Errorf("Pick = %d, %d", got, err)
		}
	}
}
