package alias

import (
	"math"
	"slices"
	"testing"

	"cullender/api"
)

func equal(a, b api.Alias) bool {
	return a.All == b.All && slices.Equal(a.Own, b.Own) && slices.Equal(a.Rest, b.Rest)
}

// P26: given tables, which were computed apart from this program.
func TestMake(t *testing.T) {
	for _, c := range []struct {
		l    []int
		want api.Alias
	}{
		{[]int{5}, api.Alias{All: 5, Own: []int{5}, Rest: []int{0}}},
		{[]int{0, 1}, api.Alias{All: 1, Own: []int{0, 1}, Rest: []int{1, 1}}},
		{[]int{1, 0}, api.Alias{All: 1, Own: []int{1, 0}, Rest: []int{0, 0}}},
		{[]int{1, 1, 1}, api.Alias{All: 3, Own: []int{3, 3, 3}, Rest: []int{0, 1, 2}}},
		{[]int{1, 3, 2}, api.Alias{All: 6, Own: []int{3, 6, 3}, Rest: []int{2, 1, 1}}},
		{[]int{2, 0, 3}, api.Alias{All: 5, Own: []int{5, 0, 4}, Rest: []int{0, 2, 0}}},
		{[]int{0, 0, 7, 0}, api.Alias{All: 7, Own: []int{0, 0, 7, 0}, Rest: []int{2, 2, 2, 2}}},
		{[]int{1, 2, 3, 4}, api.Alias{All: 10, Own: []int{4, 8, 10, 8}, Rest: []int{3, 3, 2, 2}}},
		{[]int{4, 3, 2, 1}, api.Alias{All: 10, Own: []int{10, 6, 8, 4}, Rest: []int{0, 0, 0, 1}}},
		{[]int{7, 1, 1, 1}, api.Alias{All: 10, Own: []int{10, 4, 4, 4}, Rest: []int{0, 0, 0, 0}}},
		{[]int{10, 1, 10, 1, 3}, api.Alias{All: 25, Own: []int{25, 5, 20, 5, 15}, Rest: []int{0, 0, 0, 2, 2}}},
		{[]int{1, 1, 4, 0, 9, 2}, api.Alias{All: 17, Own: []int{6, 6, 17, 0, 10, 12}, Rest: []int{4, 4, 2, 4, 2, 4}}},
		{[]int{1000000000000, 0, 1}, api.Alias{All: 1000000000001, Own: []int{1000000000001, 0, 3}, Rest: []int{0, 0, 0}}},
		{[]int{1, 1000000000000}, api.Alias{All: 1000000000001, Own: []int{2, 1000000000001}, Rest: []int{1, 1}}},
	} {
		if got, err := Make(c.l); !equal(got, c.want) || err != api.OK {
			t.Errorf("Make(%v) = %v, %d, want %v, OK", c.l, got, err, c.want)
		}
	}
}

// P26: as many weights as there may be, and as great as they may be.
func TestMakeGreat(t *testing.T) {
	want := api.Alias{All: 40000000000000, Own: slices.Repeat([]int{40000000000000}, 40)}
	for i := range 40 {
		want.Rest = append(want.Rest, i)
	}
	if got, err := Make(slices.Repeat([]int{1000000000000}, 40)); !equal(got, want) || err != api.OK {
		t.Errorf("Make of 40 times 10^12 = %v, %d", got, err)
	}
	// The last column gives to all others.
	l := make([]int, 40)
	l[0], l[39] = 1, 1000000000000
	got, err := Make(l)
	if got.All != 1000000000001 || err != api.OK {
		t.Errorf("Make of 40 weights has the sum %d, error %d", got.All, err)
	}
	for i := range l {
		own := 40 * l[i]
		if i == 39 {
			own = got.All
		}
		if got.Own[i] != own || got.Rest[i] != 39 {
			t.Errorf("column %d has %d of its own, the rest is of %d", i, got.Own[i], got.Rest[i])
		}
	}
}

// P26: weights out of range, and of several errors the first.
func TestMakeInvalid(t *testing.T) {
	for _, c := range []struct {
		name string
		l    []int
		want api.Errno
	}{
		{"41 weights", slices.Repeat([]int{1}, 41), api.ErrLarge},
		{"41 zeros", make([]int, 41), api.ErrLarge},
		{"41 weights out of range", slices.Repeat([]int{-1}, 41), api.ErrLarge},
		{"1000 weights", slices.Repeat([]int{1}, 1000), api.ErrLarge},
		{"a negative weight", []int{-1}, api.ErrArg},
		{"a negative weight at the end", []int{1, 2, -1}, api.ErrArg},
		{"a weight too great", []int{1000000000001}, api.ErrArg},
		{"a weight too great at the end", []int{1, 2, 1000000000001}, api.ErrArg},
		{"the greatest weight", []int{math.MaxInt, 1}, api.ErrArg},
		{"the least weight", []int{math.MinInt, 1}, api.ErrArg},
		{"weights whose sum wraps to 0", []int{math.MinInt, math.MinInt}, api.ErrArg},
		{"weights whose sum is 0", []int{1, -1}, api.ErrArg},
		{"zeros and a negative weight", []int{0, 0, -1}, api.ErrArg},
		{"40 weights, the last out of range", append(make([]int, 39), -1), api.ErrArg},
		{"no weights", nil, api.ErrZero},
		{"an empty list", []int{}, api.ErrZero},
		{"only 0", []int{0}, api.ErrZero},
		{"40 zeros", make([]int, 40), api.ErrZero},
	} {
		if got, err := Make(c.l); !equal(got, api.Alias{}) || err != c.want {
			t.Errorf("%s: Make(%v) = %v, %d, want none, %d", c.name, c.l, got, err, c.want)
		}
	}
}

// checkShares tests that each index has the share of its weight in the table of l.
func checkShares(t *testing.T, l []int) {
	t.Helper()
	a, err := Make(l)
	if err != api.OK || Check(a) != api.OK || len(a.Own) != len(l) {
		t.Fatalf("Make(%v) = %v, %d", l, a, err)
	}
	want := make([]int, len(l))
	for i, weight := range l {
		want[i] = weight * len(l)
	}
	if got, err := Shares(a); !slices.Equal(got, want) || err != api.OK {
		t.Fatalf("Shares of Make(%v) = %v, %d, want %v", l, got, err, want)
	}
}

// P26, P29: all lists of up to 5 small weights.
func TestSharesOfSmall(t *testing.T) {
	for n := 1; n <= 5; n++ {
		l := make([]int, n)
		// The first list, of zeros, has no table.
		for next(l, 5) {
			checkShares(t, l)
		}
	}
}

// next changes l to the list that follows it of those with numbers below top,
// and reports whether there is one.
func next(l []int, top int) bool {
	for i := range l {
		l[i]++
		if l[i] < top {
			return true
		}
		l[i] = 0
	}
	return false
}

// P26, P29: lists of any length and any weights.
func TestSharesOfAny(t *testing.T) {
	x := uint64(1)
	for n := 1; n <= 40; n++ {
		for round := range 200 {
			l := make([]int, n)
			for i := range l {
				x = x*6364136223846793005 + 1442695040888963407
				l[i] = int(x>>(24+round%40)) % 1000000000001
			}
			l[round%n]++
			if l[round%n] > 1000000000000 {
				continue
			}
			checkShares(t, l)
		}
	}
}

// valid has tables without an error, also ones that Make never builds.
var valid = []struct {
	name   string
	a      api.Alias
	shares []int
}{
	{"a column with all for its own", api.Alias{All: 1, Own: []int{1}, Rest: []int{0}}, []int{1}},
	{"a column with none for its own", api.Alias{All: 1, Own: []int{0}, Rest: []int{0}}, []int{1}},
	{"a part of its own, the rest its own, too", api.Alias{All: 9, Own: []int{4}, Rest: []int{0}}, []int{9}},
	{"a sum that fits no weights", api.Alias{All: 7, Own: []int{3, 2}, Rest: []int{1, 0}}, []int{8, 6}},
	{"a rest that is of no use", api.Alias{All: 7, Own: []int{7, 7}, Rest: []int{1, 1}}, []int{7, 7}},
	{"an index that is never picked", api.Alias{All: 7, Own: []int{7, 0, 0}, Rest: []int{0, 0, 0}}, []int{21, 0, 0}},
	{"a circle", api.Alias{All: 10, Own: []int{1, 2, 3}, Rest: []int{1, 2, 0}}, []int{8, 11, 11}},
	{"the greatest sum", api.Alias{All: 40000000000000, Own: []int{40000000000000, 1}, Rest: []int{0, 0}}, []int{79999999999999, 1}},
	{"40 columns", api.Alias{All: 40000000000000, Own: make([]int, 40), Rest: slices.Repeat([]int{39}, 40)}, append(make([]int, 39), 1600000000000000)},
}

// invalid has tables with the error of Check, which Pick and Shares return, too.
var invalid = []struct {
	name string
	a    api.Alias
	want api.Errno
}{
	{"41 columns", api.Alias{All: 1, Own: make([]int, 41), Rest: make([]int, 41)}, api.ErrLarge},
	{"41 in Own", api.Alias{All: 1, Own: make([]int, 41), Rest: make([]int, 40)}, api.ErrLarge},
	{"41 in Rest", api.Alias{All: 1, Own: make([]int, 40), Rest: make([]int, 41)}, api.ErrLarge},
	{"41 in Own, no Rest", api.Alias{All: 1, Own: make([]int, 41)}, api.ErrLarge},
	{"41 in Rest, no Own", api.Alias{All: 1, Rest: make([]int, 41)}, api.ErrLarge},
	{"41 columns, all of them wrong", api.Alias{Own: slices.Repeat([]int{-1}, 41), Rest: slices.Repeat([]int{-1}, 41)}, api.ErrLarge},
	{"nothing set", api.Alias{}, api.ErrLen},
	{"no columns", api.Alias{All: 1}, api.ErrLen},
	{"empty columns", api.Alias{All: 1, Own: []int{}, Rest: []int{}}, api.ErrLen},
	{"no Own", api.Alias{All: 1, Rest: []int{0}}, api.ErrLen},
	{"no Rest", api.Alias{All: 1, Own: []int{1}}, api.ErrLen},
	{"one fewer in Own", api.Alias{All: 1, Own: []int{1}, Rest: []int{0, 0}}, api.ErrLen},
	{"one fewer in Rest", api.Alias{All: 1, Own: []int{1, 1}, Rest: []int{0}}, api.ErrLen},
	{"one fewer in Rest, and nothing in range", api.Alias{All: -1, Own: []int{-1, 1}, Rest: []int{-1}}, api.ErrLen},
	{"40 in Own, 39 in Rest", api.Alias{All: 1, Own: make([]int, 40), Rest: make([]int, 39)}, api.ErrLen},
	{"the sum 0", api.Alias{All: 0, Own: []int{0}, Rest: []int{0}}, api.ErrArg},
	{"the sum -1", api.Alias{All: -1, Own: []int{0}, Rest: []int{0}}, api.ErrArg},
	{"the sum -1 and as much in Own", api.Alias{All: -1, Own: []int{-1}, Rest: []int{0}}, api.ErrArg},
	{"the least sum", api.Alias{All: math.MinInt, Own: []int{0}, Rest: []int{0}}, api.ErrArg},
	{"a sum too great", api.Alias{All: 40000000000001, Own: []int{1}, Rest: []int{0}}, api.ErrArg},
	{"the greatest sum", api.Alias{All: math.MaxInt, Own: []int{1}, Rest: []int{0}}, api.ErrArg},
	{"a negative Own", api.Alias{All: 5, Own: []int{-1}, Rest: []int{0}}, api.ErrArg},
	{"a negative Own at the end", api.Alias{All: 5, Own: []int{5, 5, -1}, Rest: []int{0, 1, 2}}, api.ErrArg},
	{"an Own too great", api.Alias{All: 5, Own: []int{6}, Rest: []int{0}}, api.ErrArg},
	{"an Own too great at the end", api.Alias{All: 5, Own: []int{5, 5, 6}, Rest: []int{0, 1, 2}}, api.ErrArg},
	{"the greatest Own", api.Alias{All: 5, Own: []int{math.MaxInt}, Rest: []int{0}}, api.ErrArg},
	{"the least Own", api.Alias{All: 5, Own: []int{math.MinInt}, Rest: []int{0}}, api.ErrArg},
	{"a negative Rest", api.Alias{All: 5, Own: []int{4}, Rest: []int{-1}}, api.ErrArg},
	{"a negative Rest that is of no use", api.Alias{All: 5, Own: []int{5}, Rest: []int{-1}}, api.ErrArg},
	{"a Rest too great", api.Alias{All: 5, Own: []int{4}, Rest: []int{1}}, api.ErrArg},
	{"a Rest too great at the end", api.Alias{All: 5, Own: []int{4, 4, 4}, Rest: []int{0, 1, 3}}, api.ErrArg},
	{"the greatest Rest", api.Alias{All: 5, Own: []int{4}, Rest: []int{math.MaxInt}}, api.ErrArg},
	{"the least Rest", api.Alias{All: 5, Own: []int{4}, Rest: []int{math.MinInt}}, api.ErrArg},
	{"a Rest of 40 in 40 columns", api.Alias{All: 5, Own: make([]int, 40), Rest: append(make([]int, 39), 40)}, api.ErrArg},
}

// P27: valid tables.
func TestCheckValid(t *testing.T) {
	for _, c := range valid {
		if err := Check(c.a); err != api.OK {
			t.Errorf("%s: Check(%v) = %d, want OK", c.name, c.a, err)
		}
	}
}

// P27: invalid tables, and of several errors the first.
func TestCheckInvalid(t *testing.T) {
	for _, c := range invalid {
		if err := Check(c.a); err != c.want {
			t.Errorf("%s: Check(%v) = %d, want %d", c.name, c.a, err, c.want)
		}
	}
}

// P28: picks of given columns and parts, and ones that are not there.
func TestPick(t *testing.T) {
	a := api.Alias{All: 6, Own: []int{3, 6, 0}, Rest: []int{2, 1, 1}}
	great := api.Alias{All: 40000000000000, Own: make([]int, 40), Rest: slices.Repeat([]int{7}, 40)}
	great.Own[39] = 39999999999999
	for _, c := range []struct {
		a                  api.Alias
		column, part, want int
		err                api.Errno
	}{
		{a, 0, 0, 0, api.OK},
		{a, 0, 2, 0, api.OK},
		{a, 0, 3, 2, api.OK},
		{a, 0, 5, 2, api.OK},
		{a, 1, 0, 1, api.OK},
		{a, 1, 5, 1, api.OK},
		{a, 2, 0, 1, api.OK},
		{a, 2, 5, 1, api.OK},
		{great, 39, 39999999999998, 39, api.OK},
		{great, 39, 39999999999999, 7, api.OK},
		{great, 0, 0, 7, api.OK},
		{a, 3, 0, 0, api.ErrArg},
		{a, -1, 0, 0, api.ErrArg},
		{a, 1, 6, 0, api.ErrArg},
		{a, 2, 6, 0, api.ErrArg},
		{a, 1, -1, 0, api.ErrArg},
		{a, 2, -1, 0, api.ErrArg},
		{a, 3, 6, 0, api.ErrArg},
		{a, math.MaxInt, 0, 0, api.ErrArg},
		{a, math.MinInt, 0, 0, api.ErrArg},
		{a, 1, math.MaxInt, 0, api.ErrArg},
		{a, 1, math.MinInt, 0, api.ErrArg},
		{great, 40, 0, 0, api.ErrArg},
		{great, 0, 40000000000000, 0, api.ErrArg},
	} {
		if got, err := Pick(c.a, c.column, c.part); got != c.want || err != c.err {
			t.Errorf("Pick(%v, %d, %d) = %d, %d, want %d, %d", c.a, c.column, c.part, got, err, c.want, c.err)
		}
	}
}

// P28, P29: Pick and Shares return the error of Check, and Pick before its own.
func TestPickAndSharesCheck(t *testing.T) {
	for _, c := range invalid {
		for _, part := range []int{0, 1, -1, math.MaxInt, math.MinInt} {
			if got, err := Pick(c.a, part, part); got != 0 || err != c.want {
				t.Errorf("%s: Pick(%v, %d, %d) = %d, %d, want 0, %d", c.name, c.a, part, part, got, err, c.want)
			}
		}
		if got, err := Shares(c.a); len(got) != 0 || err != c.want {
			t.Errorf("%s: Shares(%v) = %v, %d, want none, %d", c.name, c.a, got, err, c.want)
		}
	}
}

// P29: the shares of given tables.
func TestShares(t *testing.T) {
	for _, c := range valid {
		if got, err := Shares(c.a); !slices.Equal(got, c.shares) || err != api.OK {
			t.Errorf("%s: Shares(%v) = %v, %d, want %v, OK", c.name, c.a, got, err, c.shares)
		}
	}
}

// P28, P29: the shares are the picks, counted over all columns and parts, for
// all tables of two and three columns with a small sum.
func TestSharesCountPicks(t *testing.T) {
	for n := 1; n <= 3; n++ {
		for all := 1; all <= 3; all++ {
			a := api.Alias{All: all, Own: make([]int, n), Rest: make([]int, n)}
			for more := true; more; more = next(a.Own, all+1) || next(a.Rest, n) {
				countPicks(t, a)
			}
		}
	}
}

func countPicks(t *testing.T, a api.Alias) {
	t.Helper()
	counts := make([]int, len(a.Own))
	for column := range a.Own {
		for part := range a.All {
			i, err := Pick(a, column, part)
			if err != api.OK {
				t.Fatalf("Pick(%v, %d, %d) = %d, %d", a, column, part, i, err)
			}
			counts[i]++
		}
	}
	if got, err := Shares(a); !slices.Equal(got, counts) || err != api.OK {
		t.Fatalf("Shares(%v) = %v, %d, want %v, OK", a, got, err, counts)
	}
}

// P1: no function panics, whatever its arguments, and no result comes with an error.
func TestAnything(t *testing.T) {
	numbers := []int{0, 1, 2, 40, 41, 1000000000000, 1000000000001, 40000000000000, 40000000000001, -1, math.MaxInt, math.MinInt}
	lists := [][]int{nil}
	for _, n := range []int{1, 2, 40, 41} {
		for _, m := range numbers {
			lists = append(lists, slices.Repeat([]int{m}, n))
		}
	}
	for _, l := range lists {
		a, err := Make(l)
		if err != api.OK && !equal(a, api.Alias{}) || err == api.OK && Check(a) != api.OK {
			t.Errorf("Make(%v) = %v, %d", l, a, err)
		}
		for _, rest := range lists {
			for _, all := range numbers {
				anyTable(t, api.Alias{All: all, Own: l, Rest: rest}, numbers)
			}
		}
	}
}

func anyTable(t *testing.T, a api.Alias, numbers []int) {
	t.Helper()
	if got, err := Shares(a); err != Check(a) || (len(got) > 0) != (err == api.OK) {
		t.Errorf("Shares(%v) = %v, %d", a, got, err)
	}
	for _, column := range numbers {
		for _, part := range numbers {
			if got, err := Pick(a, column, part); got < 0 || got > 39 || err != api.OK && got != 0 {
				t.Errorf("Pick(%v, %d, %d) = %d, %d", a, column, part, got, err)
			}
		}
	}
}

// overwrite changes all of l, with its spare capacity.
func overwrite(l []int) {
	l = l[:cap(l)]
	for i := range l {
		l[i] = -5
	}
}

// spare returns a list of the numbers with spare capacity, and all that it has.
func spare(numbers ...int) (l, all []int) {
	all = append(slices.Clone(numbers), 77, 78, 79)
	return all[:len(numbers)], all
}

// P2: the arguments stay as they are, and so does their spare capacity, even
// if the results are changed.
func TestArgumentsKept(t *testing.T) {
	l, allWeights := spare(1, 3, 2)
	a, _ := Make(l)
	overwrite(a.Own)
	overwrite(a.Rest)
	if !slices.Equal(allWeights, []int{1, 3, 2, 77, 78, 79}) {
		t.Errorf("the weights are now %v", allWeights)
	}
	own, allOwn := spare(3, 6, 3)
	rest, allRest := spare(2, 1, 1)
	a = api.Alias{All: 6, Own: own, Rest: rest}
	Check(a)
	Pick(a, 0, 3)
	Pick(a, 3, 3)
	shares, _ := Shares(a)
	overwrite(shares)
	if !slices.Equal(allOwn, []int{3, 6, 3, 77, 78, 79}) || !slices.Equal(allRest, []int{2, 1, 1, 77, 78, 79}) {
		t.Errorf("the table is now %v, %v", allOwn, allRest)
	}
}

// P2: results are new each time, share nothing with each other or with the
// arguments, and depend on the arguments alone.
func TestResultsNew(t *testing.T) {
	for range 3 {
		l := []int{1, 3, 2}
		a, _ := Make(l)
		b, _ := Make(l)
		shares, _ := Shares(a)
		overwrite(l)
		overwrite(a.Own)
		if !slices.Equal(a.Rest, []int{2, 1, 1}) {
			t.Errorf("after a change of Own, Rest is %v", a.Rest)
		}
		overwrite(a.Rest)
		if !slices.Equal(b.Own, []int{3, 6, 3}) || !slices.Equal(b.Rest, []int{2, 1, 1}) || b.All != 6 {
			t.Errorf("after a change of another result: %v", b)
		}
		if !slices.Equal(shares, []int{3, 9, 6}) {
			t.Errorf("after a change of the table: %v", shares)
		}
		overwrite(shares)
		overwrite(b.Rest)
		if !slices.Equal(b.Own, []int{3, 6, 3}) {
			t.Errorf("after a change of Rest, Own is %v", b.Own)
		}
	}
}
