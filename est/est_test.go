package est

import (
	"math"
	"math/big"
	"slices"
	"testing"

	"cullender/api"
)

const (
	top    = 1<<56 - 1 // the greatest random value
	maxNum = 1000000000000
)

// times returns a list of n times x.
func times(n, x int) []int {
	return slices.Repeat([]int{x}, n)
}

// invalid has items with the error that both functions return first.
var invalid = []struct {
	name           string
	values, levels []int
	want           api.Errno
}{
	{"41 items", times(41, 1), times(41, 1), api.ErrLarge},
	{"41 items, all of them wrong", times(41, maxNum+1), times(41, 21), api.ErrLarge},
	{"41 values, 40 levels", times(41, 1), times(40, 1), api.ErrLarge},
	{"40 values, 41 levels", times(40, 1), times(41, 1), api.ErrLarge},
	{"41 values, no levels", times(41, 1), nil, api.ErrLarge},
	{"no values, 41 levels", nil, times(41, 1), api.ErrLarge},
	{"1000 values and levels", times(1000, 1), times(1000, 1), api.ErrLarge},
	{"a value, no level", []int{5}, nil, api.ErrLen},
	{"no value, a level", nil, []int{5}, api.ErrLen},
	{"a level too many", []int{5, 6}, []int{1, 2, 3}, api.ErrLen},
	{"a level too few", []int{5, 6, 7}, []int{1, 2}, api.ErrLen},
	{"40 values, 39 levels", times(40, 1), times(39, 1), api.ErrLen},
	{"39 values, 40 levels", times(39, 1), times(40, 1), api.ErrLen},
	{"a level too few, and a wrong value", []int{maxNum + 1, 6}, []int{1}, api.ErrLen},
	{"a level too many, and a wrong one", []int{5}, []int{21, 1}, api.ErrLen},
	{"a value above 10^12", []int{maxNum + 1}, []int{0}, api.ErrArg},
	{"a value below -10^12", []int{-maxNum - 1}, []int{0}, api.ErrArg},
	{"the greatest value", []int{math.MaxInt}, []int{0}, api.ErrArg},
	{"the least value", []int{math.MinInt}, []int{0}, api.ErrArg},
	{"the level 21", []int{5}, []int{21}, api.ErrArg},
	{"the level 21 of the value 0", []int{0}, []int{21}, api.ErrArg},
	{"the level 64", []int{5}, []int{64}, api.ErrArg},
	{"the level -1", []int{5}, []int{-1}, api.ErrArg},
	{"the greatest level", []int{5}, []int{math.MaxInt}, api.ErrArg},
	{"the least level", []int{5}, []int{math.MinInt}, api.ErrArg},
	{"the first value wrong", []int{maxNum + 1, 6, 7}, []int{1, 2, 3}, api.ErrArg},
	{"the last value wrong", []int{5, 6, -maxNum - 1}, []int{1, 2, 3}, api.ErrArg},
	{"the first level wrong", []int{5, 6, 7}, []int{-1, 2, 3}, api.ErrArg},
	{"the last level wrong", []int{5, 6, 7}, []int{1, 2, 21}, api.ErrArg},
	{"the last value of 40 wrong", append(times(39, 1), maxNum+1), times(40, 1), api.ErrArg},
	{"the last level of 40 wrong", times(40, 1), append(times(39, 1), 21), api.ErrArg},
	{"a wrong level after a spread too large", []int{1000000, 1000000, 1}, []int{20, 20, 21}, api.ErrArg},
}

// P37: both functions return the errors of the items, before their own.
func TestItemsInvalid(t *testing.T) {
	for _, c := range invalid {
		for _, draws := range [][]int{nil, times(len(c.values), top), times(len(c.levels), 0), times(len(c.values)+1, 0), times(len(c.values), -1), times(41, 1<<56)} {
			if got, err := Sum(c.values, c.levels, draws); got != 0 || err != c.want {
				t.Errorf("%s: Sum(%v, %v, %v) = %d, %d, want 0, %d", c.name, c.values, c.levels, draws, got, err, c.want)
			}
		}
		if got, err := Spread(c.values, c.levels); got != 0 || err != c.want {
			t.Errorf("%s: Spread(%v, %v) = %d, %d, want 0, %d", c.name, c.values, c.levels, got, err, c.want)
		}
	}
}

// P37: the estimates of given items.
func TestSum(t *testing.T) {
	for _, c := range []struct {
		name                  string
		values, levels, draws []int
		want                  int
	}{
		{"no items", nil, nil, nil, 0},
		{"empty lists", []int{}, []int{}, []int{}, 0},
		{"5 at level 1", []int{5}, []int{1}, []int{1 << 55}, 10},
		{"5 at level 1, not sampled", []int{5}, []int{1}, []int{1<<55 - 1}, 0},
		{"level 0 is always sampled", []int{5}, []int{0}, []int{0}, 5},
		{"level 0 with the greatest draw", []int{5}, []int{0}, []int{top}, 5},
		{"-5 at level 1", []int{-5}, []int{1}, []int{top}, -10},
		{"0 at level 20", []int{0}, []int{20}, []int{top}, 0},
		{"1 at level 20", []int{1}, []int{20}, []int{1<<56 - 1<<36}, 1048576},
		{"1 at level 20, not sampled", []int{1}, []int{20}, []int{1<<56 - 1<<36 - 1}, 0},
		{"the greatest value at level 0", []int{maxNum}, []int{0}, []int{0}, maxNum},
		{"the greatest item", []int{maxNum}, []int{20}, []int{top}, 1048576000000000000},
		{"the least item", []int{-maxNum}, []int{20}, []int{top}, -1048576000000000000},
		{"several, all sampled", []int{5, -7, 9}, []int{1, 0, 2}, []int{top, top, top}, 39},
		{"several, one not sampled", []int{5, -7, 9}, []int{1, 0, 2}, []int{1 << 55, 0, 1 << 55}, 3},
		{"several, each with its own draw", []int{1, 10, 100}, []int{1, 1, 1}, []int{top, 0, top}, 202},
		{"none sampled", []int{1, 10, 100}, []int{1, 2, 3}, []int{0, 0, 0}, 0},
		{"equal items count each", []int{4, 4}, []int{1, 1}, []int{top, top}, 16},
		{"opposite values", []int{maxNum, -maxNum}, []int{20, 20}, []int{top, top}, 0},
		{"40 items", times(40, 3), times(40, 2), times(40, 3<<54), 480},
		{"8 of the greatest items", times(8, maxNum), times(8, 20), times(8, top), 8388608000000000000},
		{"8 of the least items", times(8, -maxNum), times(8, 20), times(8, top), -8388608000000000000},
		{"large parts that cancel out", append(times(20, maxNum), times(20, -maxNum)...), times(40, 20), times(40, top), 0},
	} {
		if got, err := Sum(c.values, c.levels, c.draws); got != c.want || err != api.OK {
			t.Errorf("%s: Sum(%v, %v, %v) = %d, %d, want %d, OK", c.name, c.values, c.levels, c.draws, got, err, c.want)
		}
	}
}

// P37: of each level the least draw that is sampled, and the one before.
func TestSumLevels(t *testing.T) {
	for level := range 21 {
		least := 1<<56 - 1<<(56-level)
		for _, c := range []struct{ draw, want int }{{least, 7 << level}, {least + 1, 7 << level}, {top, 7 << level}, {least - 1, 0}, {0, 0}} {
			if level == 0 && c.draw <= 0 {
				continue
			}
			if got, err := Sum([]int{7}, []int{level}, []int{c.draw}); got != c.want || err != api.OK {
				t.Errorf("Sum(7, %d, %d) = %d, %d, want %d, OK", level, c.draw, got, err, c.want)
			}
		}
	}
}

// P37: integers have 64 bits, and no error is listed for an estimate that has
// more: it is taken modulo 2^64.
func TestSumWraps(t *testing.T) {
	for n := range 41 {
		for _, value := range []int{maxNum, -maxNum, maxNum - 12345} {
			all := new(big.Int).Lsh(big.NewInt(int64(value)), 20)
			all.Mul(all, big.NewInt(int64(n)))
			low := new(big.Int).And(all, new(big.Int).SetUint64(math.MaxUint64))
			want := int(low.Uint64())
			if got, err := Sum(times(n, value), times(n, 20), times(n, top)); got != want || err != api.OK {
				t.Errorf("Sum of %d times %d at level 20 = %d, %d, want %d, OK", n, value, got, err, want)
			}
		}
	}
}

// P37: draws of another length, and draws out of range, sampled or not.
func TestSumDraws(t *testing.T) {
	values, levels := []int{5, 6, 7}, []int{0, 1, 20}
	for _, n := range []int{0, 1, 2, 4, 40, 41, 1000} {
		for _, draw := range []int{0, top, -1, 1 << 56} {
			if got, err := Sum(values, levels, times(n, draw)); got != 0 || err != api.ErrLen {
				t.Errorf("Sum of 3 items with %d draws of %d = %d, %d, want 0, ErrLen", n, draw, got, err)
			}
		}
	}
	for _, draw := range []int{-1, 1 << 56, 1<<56 + 1, math.MaxInt, math.MinInt} {
		for i := range values {
			draws := []int{0, 1 << 55, top}
			draws[i] = draw
			if got, err := Sum(values, levels, draws); got != 0 || err != api.ErrArg {
				t.Errorf("Sum(%v, %v, %v) = %d, %d, want 0, ErrArg", values, levels, draws, got, err)
			}
		}
	}
	if got, err := Sum(nil, nil, []int{0}); got != 0 || err != api.ErrLen {
		t.Errorf("Sum of no items with a draw = %d, %d, want 0, ErrLen", got, err)
	}
}

// P38: the variances of given items.
func TestSpread(t *testing.T) {
	for _, c := range []struct {
		name           string
		values, levels []int
		want           int
	}{
		{"no items", nil, nil, 0},
		{"empty lists", []int{}, []int{}, 0},
		{"level 0 is exact", []int{5}, []int{0}, 0},
		{"level 0 is exact, for all values", times(40, 1000000), times(40, 0), 0},
		{"5 at level 1", []int{5}, []int{1}, 25},
		{"-5 at level 1", []int{-5}, []int{1}, 25},
		{"5 at level 2", []int{5}, []int{2}, 75},
		{"0 at level 20", []int{0}, []int{20}, 0},
		{"1 at level 20", []int{1}, []int{20}, 1048575},
		{"several", []int{3, 2}, []int{1, 2}, 21},
		{"opposite values add up", []int{3, -3}, []int{1, 1}, 18},
		{"the greatest value at level 1", []int{1000000}, []int{1}, maxNum},
		{"the greatest item", []int{1000000}, []int{20}, 1048575000000000000},
		{"the greatest item, negative", []int{-1000000}, []int{20}, 1048575000000000000},
		{"40 items", times(40, 3), times(40, 3), 2520},
		// 4 * (2^58 - 2^38) and 4 * 2^38.
		{"exactly 2^60", append(times(4, 1<<19), times(4, -1<<19)...), append(times(4, 20), times(4, 1)...), 1 << 60},
		{"exactly 2^60, and level 0", append(times(8, 1<<19), 1000000), append(append(times(4, 20), times(4, 1)...), 0), 1 << 60},
	} {
		if got, err := Spread(c.values, c.levels); got != c.want || err != api.OK {
			t.Errorf("%s: Spread(%v, %v) = %d, %d, want %d, OK", c.name, c.values, c.levels, got, err, c.want)
		}
	}
}

// P38: values out of range, before a result that is too large.
func TestSpreadInvalid(t *testing.T) {
	for _, c := range []struct {
		name           string
		values, levels []int
		want           api.Errno
	}{
		{"a value above 10^6", []int{1000001}, []int{1}, api.ErrArg},
		{"a value below -10^6", []int{-1000001}, []int{1}, api.ErrArg},
		{"a value above 10^6 at level 0", []int{1000001}, []int{0}, api.ErrArg},
		{"a value of 10^12", []int{maxNum}, []int{20}, api.ErrArg},
		{"a value of -10^12", []int{-maxNum}, []int{20}, api.ErrArg},
		{"the last value wrong", append(times(39, 1), 1000001), times(40, 1), api.ErrArg},
		{"the first value wrong", append([]int{-1000001}, times(39, 1)...), times(40, 1), api.ErrArg},
		{"a wrong value after a sum too large", append(times(39, 1000000), 1000001), times(40, 20), api.ErrArg},
		{"a wrong value before a sum too large", append([]int{1000001}, times(39, 1000000)...), times(40, 20), api.ErrArg},
		{"2^60 + 1", append(times(8, 1<<19), 1), append(append(times(4, 20), times(4, 1)...), 1), api.ErrLarge},
		{"2^60 + 1, of which 1 is the first", append([]int{1}, times(8, 1<<19)...), append([]int{1}, append(times(4, 20), times(4, 1)...)...), api.ErrLarge},
	} {
		if got, err := Spread(c.values, c.levels); got != 0 || err != c.want {
			t.Errorf("%s: Spread(%v, %v) = %d, %d, want 0, %d", c.name, c.values, c.levels, got, err, c.want)
		}
	}
	// Some of these sums are small modulo 2^64.
	for n := 2; n <= 40; n++ {
		for _, value := range []int{1000000, -1000000, 1000000 - n} {
			if got, err := Spread(times(n, value), times(n, 20)); got != 0 || err != api.ErrLarge {
				t.Errorf("Spread of %d times %d at level 20 = %d, %d, want 0, ErrLarge", n, value, got, err)
			}
		}
	}
}

// spreadOf computes what Spread returns with integers of any size.
func spreadOf(values, levels []int) (int, api.Errno) {
	all := new(big.Int)
	for i, value := range values {
		square := new(big.Int).Mul(big.NewInt(int64(value)), big.NewInt(int64(value)))
		factor := new(big.Int).Lsh(big.NewInt(1), uint(levels[i]))
		all.Add(all, square.Mul(square, factor.Sub(factor, big.NewInt(1))))
	}
	if all.Cmp(new(big.Int).Lsh(big.NewInt(1), 60)) > 0 {
		return 0, api.ErrLarge
	}
	return int(all.Int64()), api.OK
}

// estimateOf computes what Sum returns where 64 bits suffice, from the number
// of random values below each threshold.
func estimateOf(values, levels, draws []int) int {
	all := new(big.Int)
	for i, value := range values {
		part := 1 << levels[i]
		// The last of equally many parts is sampled.
		if draws[i]/(1<<56/part) == part-1 {
			all.Add(all, new(big.Int).Mul(big.NewInt(int64(value)), big.NewInt(int64(part))))
		}
	}
	return int(all.Int64())
}

// P37, P38: many lists of items, as computed with integers of any size.
func TestMany(t *testing.T) {
	x := uint64(1)
	next := func(n int) int {
		x = x*6364136223846793005 + 1442695040888963407
		return int(x>>8) % n
	}
	large := 0
	for i := range 5000 {
		n, levelBound := i%41, next(21)+1
		values, levels, draws := make([]int, n), make([]int, n), make([]int, n)
		for j := range n {
			values[j] = next(2000001) - 1000000
			levels[j] = next(levelBound)
			draws[j] = top - next(1<<56)>>next(levelBound)
		}
		want, wantErr := spreadOf(values, levels)
		if wantErr == api.ErrLarge {
			large++
		}
		if got, err := Spread(values, levels); got != want || err != wantErr {
			t.Fatalf("Spread(%v, %v) = %d, %d, want %d, %d", values, levels, got, err, want, wantErr)
		}
		estimate := estimateOf(values, levels, draws)
		if got, err := Sum(values, levels, draws); got != estimate || err != api.OK {
			t.Fatalf("Sum(%v, %v, %v) = %d, %d, want %d, OK", values, levels, draws, got, err, estimate)
		}
	}
	if large == 0 || large == 5000 {
		t.Errorf("%d of 5000 spreads were too large", large)
	}
}

// eachDraws calls do with all lists of n draws, one of each eighth of all
// random values: up to level 3 the others of the eighth are sampled alike.
func eachDraws(n int, do func(draws []int)) {
	draws := make([]int, n)
	var place func(i int)
	place = func(i int) {
		if i == n {
			do(draws)
			return
		}
		for eighth := range 8 {
			// The first or the last of the eighth.
			draws[i] = eighth<<53 + eighth%2*(1<<53-1)
			place(i + 1)
		}
	}
	place(0)
}

// P37, P38: averaged over all random values, the estimate is the total, and the
// square of its error is the spread.
func TestUnbiased(t *testing.T) {
	for _, c := range []struct{ values, levels []int }{
		{nil, nil},
		{[]int{5}, []int{0}},
		{[]int{5}, []int{1}},
		{[]int{-5}, []int{3}},
		{[]int{5, 7}, []int{1, 1}},
		{[]int{5, -7}, []int{3, 0}},
		{[]int{0, 9, -2}, []int{3, 2, 1}},
		{[]int{1000, -999, 998}, []int{3, 3, 3}},
		{[]int{3, 3, -4, 8}, []int{1, 2, 3, 0}},
		{[]int{1, 2, 3, 4}, []int{3, 2, 3, 1}},
	} {
		total := 0
		for _, value := range c.values {
			total += value
		}
		sum, squares, count := 0, 0, 0
		eachDraws(len(c.values), func(draws []int) {
			got, err := Sum(c.values, c.levels, draws)
			if err != api.OK {
				t.Fatalf("Sum(%v, %v, %v) = %d, %d", c.values, c.levels, draws, got, err)
			}
			sum += got
			squares += (got - total) * (got - total)
			count++
		})
		spread, err := Spread(c.values, c.levels)
		if sum != total*count || squares != spread*count || err != api.OK {
			t.Errorf("%v at levels %v: average %d/%d, want %d; spread %d, %d, but squares %d/%d", c.values, c.levels, sum, count, total, spread, err, squares, count)
		}
	}
}

// P1: no function panics, whatever its arguments, and no result comes with an error.
func TestAnything(t *testing.T) {
	numbers := []int{0, 1, 20, 21, 63, 64, 1000000, 1000001, maxNum, maxNum + 1, top, 1 << 56, -1, -1000001, -maxNum, math.MaxInt, math.MinInt}
	for _, a := range numbers {
		for _, b := range numbers {
			for _, n := range []int{0, 1, 2, 40, 41} {
				for _, m := range []int{0, 1, 2, 40, 41} {
					anyItems(t, times(n, a), times(m, b), numbers)
				}
			}
		}
	}
}

func anyItems(t *testing.T, values, levels, draws []int) {
	t.Helper()
	if got, err := Spread(values, levels); err != api.OK && got != 0 || got < 0 || got > 1<<60 {
		t.Errorf("Spread(%v, %v) = %d, %d", values, levels, got, err)
	}
	for _, draw := range draws {
		for _, n := range []int{len(values), len(values) + 1} {
			if got, err := Sum(values, levels, times(n, draw)); err != api.OK && got != 0 {
				t.Errorf("Sum(%v, %v, %d times %d) = %d, %d", values, levels, n, draw, got, err)
			}
		}
	}
}

// P2: the arguments stay as they are, and so does their spare capacity.
func TestArgumentsKept(t *testing.T) {
	values, levels, draws := []int{5, -6, 7, 77}, []int{1, 2, 3, 78}, []int{top, 0, top, 79}
	for n := range 4 {
		for m := range 4 {
			Sum(values[:n], levels[:n], draws[:m])
			Spread(values[:n], levels[:m])
		}
	}
	if !slices.Equal(values, []int{5, -6, 7, 77}) || !slices.Equal(levels, []int{1, 2, 3, 78}) || !slices.Equal(draws, []int{top, 0, top, 79}) {
		t.Errorf("the arguments are now %v, %v, %v", values, levels, draws)
	}
}

// P2: the same arguments give the same results, whatever came before.
func TestNoState(t *testing.T) {
	for n := range 45 {
		Sum(times(n, 9), times(n, n), times(n, top))
		Spread(times(n, 9), times(n, n))
		sum, _ := Sum([]int{5, -6}, []int{1, 2}, []int{top, top})
		spread, _ := Spread([]int{5, -6}, []int{1, 2})
		if sum != -14 || spread != 133 {
			t.Errorf("Sum and Spread = %d, %d, want -14, 133", sum, spread)
		}
	}
}
