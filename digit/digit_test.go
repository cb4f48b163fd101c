package digit

import (
	"math"
	"slices"
	"testing"

	"cullender/api"
)

// invalid has lists with the error of Check, which Rank returns, too.
var invalid = []struct {
	name string
	l    []int
	want api.Errno
}{
	{"13 numbers in order", []int{0, 1, 2, 3, 4, 5, 6, 7, 8, 9, 10, 11, 12}, api.ErrLarge},
	{"13 equal numbers", make([]int, 13), api.ErrLarge},
	{"13 numbers out of range", slices.Repeat([]int{-1}, 13), api.ErrLarge},
	{"1000 numbers", make([]int, 1000), api.ErrLarge},
	{"only 1", []int{1}, api.ErrArg},
	{"only -1", []int{-1}, api.ErrArg},
	{"from 1 on", []int{1, 2, 3}, api.ErrArg},
	{"as great as the length, at the end", []int{0, 1, 3}, api.ErrArg},
	{"negative at the end", []int{0, 1, -1}, api.ErrArg},
	{"12 of 12 numbers", []int{0, 1, 2, 3, 4, 5, 6, 7, 8, 9, 10, 12}, api.ErrArg},
	{"the greatest number", []int{0, math.MaxInt}, api.ErrArg},
	{"the least number", []int{math.MinInt, 0}, api.ErrArg},
	{"out of range twice", []int{5, 5}, api.ErrArg},
	{"equal to one out of range", []int{0, 4, 4}, api.ErrArg},
	{"0 twice", []int{0, 0}, api.ErrThere},
	{"a number twice, far apart", []int{2, 0, 1, 2}, api.ErrThere},
	{"a number twice, at the start", []int{1, 1, 0}, api.ErrThere},
	{"a number twice, of 12", []int{11, 1, 2, 3, 4, 5, 6, 7, 8, 9, 10, 11}, api.ErrThere},
	{"a number twice, then one out of range", []int{1, 1, 3}, api.ErrThere},
	{"one out of range, then a number twice", []int{3, 1, 1}, api.ErrArg},
	{"a number twice with one out of range between", []int{1, -1, 1}, api.ErrArg},
}

// permutations returns all permutations of n in lexicographic order, which it
// finds by trying all numbers at each place.
func permutations(n int) [][]int {
	var all [][]int
	var extend func(l []int)
	extend = func(l []int) {
		if len(l) == n {
			all = append(all, slices.Clone(l))
			return
		}
		for i := 0; i < n; i++ {
			if !slices.Contains(l, i) {
				extend(append(l[:len(l):len(l)], i))
			}
		}
	}
	extend(nil)
	return all
}

// following returns the permutation behind l in lexicographic order, nil if
// there is none.
func following(l []int) []int {
	l = slices.Clone(l)
	i := len(l) - 2
	for i >= 0 && l[i] > l[i+1] {
		i--
	}
	if i < 0 {
		return nil
	}
	j := len(l) - 1
	for l[j] < l[i] {
		j--
	}
	l[i], l[j] = l[j], l[i]
	slices.Reverse(l[i+1:])
	return l
}

// P16: permutations are valid.
func TestCheck(t *testing.T) {
	for n := 0; n <= 7; n++ {
		for _, l := range permutations(n) {
			if err := Check(l); err != api.OK {
				t.Errorf("Check(%v) = %d, want OK", l, err)
			}
		}
	}
	for _, l := range [][]int{
		nil,
		{0, 1, 2, 3, 4, 5, 6, 7, 8, 9, 10, 11},
		{11, 10, 9, 8, 7, 6, 5, 4, 3, 2, 1, 0},
		{5, 11, 0, 3, 8, 1, 10, 2, 7, 4, 9, 6},
	} {
		if err := Check(l); err != api.OK {
			t.Errorf("Check(%v) = %d, want OK", l, err)
		}
	}
}

// P16: what is not a permutation, and of several errors the first.
func TestCheckInvalid(t *testing.T) {
	for _, c := range invalid {
		if err := Check(c.l); err != c.want {
			t.Errorf("%s: Check(%v) = %d, want %d", c.name, c.l, err, c.want)
		}
	}
}

// P16: of all lists of up to 4 small numbers, the permutations are valid.
func TestCheckAll(t *testing.T) {
	for n := 0; n <= 4; n++ {
		all := permutations(n)
		valid := 0
		eachList(n, -1, n, func(l []int) {
			isOne := slices.ContainsFunc(all, func(p []int) bool { return slices.Equal(p, l) })
			if got := Check(l) == api.OK; got != isOne {
				t.Errorf("Check(%v) = %d", l, Check(l))
			}
			if isOne {
				valid++
			}
		})
		if valid != len(all) {
			t.Errorf("%d of the lists of %d numbers are valid, want %d", valid, n, len(all))
		}
	}
}

// eachList calls f with every list of n numbers from low to high.
func eachList(n, low, high int, f func(l []int)) {
	l := make([]int, n)
	var extend func(i int)
	extend = func(i int) {
		if i == n {
			f(slices.Clone(l))
			return
		}
		for m := low; m <= high; m++ {
			l[i] = m
			extend(i + 1)
		}
	}
	extend(0)
}

// P17: given ranks.
func TestRank(t *testing.T) {
	for _, c := range []struct {
		l    []int
		want int
	}{
		{nil, 0},
		{[]int{}, 0},
		{[]int{0}, 0},
		{[]int{0, 1}, 0},
		{[]int{1, 0}, 1},
		{[]int{1, 0, 2}, 2},
		{[]int{2, 1, 0}, 5},
		{[]int{1, 3, 0, 2}, 10},
		{[]int{0, 1, 2, 3, 4, 5, 6, 7, 8, 9, 10, 11}, 0},
		{[]int{0, 1, 2, 3, 4, 5, 6, 7, 8, 9, 11, 10}, 1},
		{[]int{1, 0, 2, 3, 4, 5, 6, 7, 8, 9, 10, 11}, 39916800},
		{[]int{11, 0, 1, 2, 3, 4, 5, 6, 7, 8, 9, 10}, 439084800},
		{[]int{11, 10, 9, 8, 7, 6, 5, 4, 3, 2, 1, 0}, 479001599},
	} {
		if got, err := Rank(c.l); got != c.want || err != api.OK {
			t.Errorf("Rank(%v) = %d, %d, want %d, OK", c.l, got, err, c.want)
		}
	}
}

// P17: Rank returns the error of Check.
func TestRankInvalid(t *testing.T) {
	for _, c := range invalid {
		if got, err := Rank(c.l); got != 0 || err != c.want {
			t.Errorf("%s: Rank(%v) = %d, %d, want 0, %d", c.name, c.l, got, err, c.want)
		}
	}
}

// P17, P18: the ranks count all permutations in lexicographic order.
func TestRankAndOrderAll(t *testing.T) {
	for n := 0; n <= 8; n++ {
		all := permutations(n)
		for rank, l := range all {
			if got, err := Rank(l); got != rank || err != api.OK {
				t.Fatalf("Rank(%v) = %d, %d, want %d, OK", l, got, err, rank)
			}
			if got, err := Order(n, rank); !slices.Equal(got, l) || err != api.OK {
				t.Fatalf("Order(%d, %d) = %v, %d, want %v, OK", n, rank, got, err, l)
			}
		}
		for _, rank := range []int{-1, len(all), len(all) + 1} {
			if got, err := Order(n, rank); len(got) != 0 || err != api.ErrNone {
				t.Errorf("Order(%d, %d) = %v, %d, want none, ErrNone", n, rank, got, err)
			}
		}
	}
}

// P17, P18: at many ranks of 9 to 12 numbers, the next rank is that of the
// permutation that follows.
func TestRankAndOrderLong(t *testing.T) {
	for n, all := range map[int]int{9: 362880, 10: 3628800, 11: 39916800, 12: 479001600} {
		for i := 0; i < 2000; i++ {
			rank := i * (all - 2) / 1999
			l, err := Order(n, rank)
			if back, err2 := Rank(l); len(l) != n || back != rank || err != api.OK || err2 != api.OK {
				t.Fatalf("Order(%d, %d) = %v, %d, with the rank %d, %d", n, rank, l, err, back, err2)
			}
			next, err := Order(n, rank+1)
			if want := following(l); !slices.Equal(next, want) || err != api.OK {
				t.Fatalf("Order(%d, %d) = %v, %d, want %v, which follows %v", n, rank+1, next, err, want, l)
			}
		}
		last, err := Order(n, all-1)
		if following(last) != nil || len(last) != n || err != api.OK {
			t.Errorf("Order(%d, %d) = %v, %d is not the last", n, all-1, last, err)
		}
	}
}

// P18: given ranks, and the errors.
func TestOrder(t *testing.T) {
	for _, c := range []struct {
		n, rank int
		want    []int
		err     api.Errno
	}{
		{0, 0, nil, api.OK},
		{1, 0, []int{0}, api.OK},
		{3, 2, []int{1, 0, 2}, api.OK},
		{12, 479001599, []int{11, 10, 9, 8, 7, 6, 5, 4, 3, 2, 1, 0}, api.OK},
		{12, 39916800, []int{1, 0, 2, 3, 4, 5, 6, 7, 8, 9, 10, 11}, api.OK},
		{-1, 0, nil, api.ErrArg},
		{13, 0, nil, api.ErrArg},
		{-1, -1, nil, api.ErrArg}, // and there is no such rank, which is listed later
		{13, -1, nil, api.ErrArg},
		{13, math.MaxInt, nil, api.ErrArg},
		{64, 0, nil, api.ErrArg},
		{math.MaxInt, 0, nil, api.ErrArg},
		{math.MinInt, 0, nil, api.ErrArg},
		{0, 1, nil, api.ErrNone},
		{0, -1, nil, api.ErrNone},
		{1, 1, nil, api.ErrNone},
		{3, 6, nil, api.ErrNone},
		{12, 479001600, nil, api.ErrNone},
		{12, math.MaxInt, nil, api.ErrNone},
		{12, math.MinInt, nil, api.ErrNone},
	} {
		if got, err := Order(c.n, c.rank); !slices.Equal(got, c.want) || err != c.err {
			t.Errorf("Order(%d, %d) = %v, %d, want %v, %d", c.n, c.rank, got, err, c.want, c.err)
		}
	}
}

// P19: given shuffles, of any elements.
func TestDeal(t *testing.T) {
	for _, c := range []struct{ l, draws, want []int }{
		{nil, nil, nil},
		{[]int{}, nil, nil},
		{nil, []int{}, nil},
		{[]int{7}, []int{0}, []int{7}},
		{[]int{7, 8}, []int{0, 0}, []int{8, 7}},
		{[]int{7, 8}, []int{0, 1}, []int{7, 8}},
		{[]int{7, 8, 9}, []int{0, 0, 1}, []int{8, 9, 7}},
		{[]int{7, 8, 9}, []int{0, 0, 0}, []int{9, 7, 8}},
		{[]int{7, 8, 9}, []int{0, 1, 2}, []int{7, 8, 9}},
		{[]int{7, 8, 9}, []int{0, 1, 0}, []int{9, 8, 7}},
		{[]int{5, 5, -1}, []int{0, 0, 0}, []int{-1, 5, 5}},
		{[]int{math.MinInt, math.MaxInt}, []int{0, 0}, []int{math.MaxInt, math.MinInt}},
		{[]int{0, 1, 2, 3, 4, 5, 6, 7, 8, 9, 10, 11}, make([]int, 12), []int{11, 0, 1, 2, 3, 4, 5, 6, 7, 8, 9, 10}},
		{[]int{0, 1, 2, 3, 4, 5, 6, 7, 8, 9, 10, 11}, []int{0, 0, 1, 2, 3, 4, 5, 6, 7, 8, 9, 10}, []int{1, 2, 3, 4, 5, 6, 7, 8, 9, 10, 11, 0}},
	} {
		if got, err := Deal(c.l, c.draws); !slices.Equal(got, c.want) || err != api.OK {
			t.Errorf("Deal(%v, %v) = %v, %d, want %v, OK", c.l, c.draws, got, err, c.want)
		}
	}
}

// P19: lengths and draws that do not fit, and of several errors the first.
func TestDealInvalid(t *testing.T) {
	for _, c := range []struct {
		name     string
		l, draws []int
		want     api.Errno
	}{
		{"13 elements", make([]int, 13), make([]int, 13), api.ErrLarge},
		{"13 elements, too few draws", make([]int, 13), nil, api.ErrLarge},
		{"13 elements, a draw too great", make([]int, 13), slices.Repeat([]int{1}, 13), api.ErrLarge},
		{"no draw", []int{7}, nil, api.ErrLen},
		{"no element", nil, []int{0}, api.ErrLen},
		{"a draw too few", []int{7, 8}, []int{0}, api.ErrLen},
		{"a draw too many", []int{7, 8}, []int{0, 0, 0}, api.ErrLen},
		{"13 draws for 12 elements", make([]int, 12), make([]int, 13), api.ErrLen},
		{"a draw too few, and one too great", []int{7, 8}, []int{1}, api.ErrLen},
		{"the first draw too great", []int{7, 8}, []int{1, 0}, api.ErrArg},
		{"the second draw too great", []int{7, 8, 9}, []int{0, 2, 0}, api.ErrArg},
		{"the last draw too great", []int{7, 8, 9}, []int{0, 1, 3}, api.ErrArg},
		{"the first draw negative", []int{7, 8}, []int{-1, 0}, api.ErrArg},
		{"the last draw negative", []int{7, 8, 9}, []int{0, 1, -1}, api.ErrArg},
		{"the greatest draw", []int{7}, []int{math.MaxInt}, api.ErrArg},
		{"the least draw", []int{7}, []int{math.MinInt}, api.ErrArg},
		{"the last of 12 draws too great", make([]int, 12), []int{0, 0, 0, 0, 0, 0, 0, 0, 0, 0, 0, 12}, api.ErrArg},
	} {
		if got, err := Deal(c.l, c.draws); len(got) != 0 || err != c.want {
			t.Errorf("%s: Deal(%v, %v) = %v, %d, want none, %d", c.name, c.l, c.draws, got, err, c.want)
		}
	}
}

// P19: all draws together give each order once.
func TestDealFair(t *testing.T) {
	for n := 0; n <= 7; n++ {
		l := make([]int, n)
		for i := range l {
			l[i] = i
		}
		all := permutations(n)
		counts := make([]int, len(all))
		draws := make([]int, n)
		for range all {
			dealt, err := Deal(l, draws)
			rank, err2 := Rank(dealt)
			if err != api.OK || err2 != api.OK || len(dealt) != n {
				t.Fatalf("Deal(%v, %v) = %v, %d", l, draws, dealt, err)
			}
			counts[rank]++
			for i := range draws {
				draws[i] = (draws[i] + 1) % (i + 1)
				if draws[i] != 0 {
					break
				}
			}
		}
		for rank, count := range counts {
			if count != 1 {
				t.Errorf("Deal gives %v %d times, want once", all[rank], count)
			}
		}
	}
}

// P1: no function panics, whatever its arguments, and no result comes with an error.
func TestAnything(t *testing.T) {
	numbers := []int{0, 1, 2, 11, 12, 13, 479001599, 479001600, 1 << 32, -1, math.MaxInt, math.MinInt}
	var lists [][]int
	for n := 0; n <= 14; n++ {
		for _, m := range numbers {
			lists = append(lists, slices.Repeat([]int{m}, n))
		}
	}
	for _, a := range numbers {
		for _, b := range numbers {
			if got, err := Order(a, b); err != api.OK && len(got) != 0 {
				t.Errorf("Order(%d, %d) = %v, %d", a, b, got, err)
			}
		}
	}
	for _, l := range lists {
		if got, err := Rank(l); err != Check(l) || err != api.OK && got != 0 {
			t.Errorf("Rank(%v) = %d, %d", l, got, err)
		}
		for _, draws := range lists {
			if got, err := Deal(l, draws); err != api.OK && len(got) != 0 {
				t.Errorf("Deal(%v, %v) = %v, %d", l, draws, got, err)
			}
		}
	}
}

// spare returns a list of the numbers with spare capacity, and all that it has.
func spare(numbers ...int) (l, all []int) {
	all = append(slices.Clone(numbers), 77, 78, 79)
	return all[:len(numbers)], all
}

// P2: the arguments stay as they are, and so does their spare capacity.
func TestArgumentsKept(t *testing.T) {
	l, all := spare(2, 0, 1)
	draws, allDraws := spare(0, 0, 1)
	Check(l)
	Rank(l)
	dealt, _ := Deal(l, draws)
	for _, bad := range [][]int{{0, 0, 3}, {0}} {
		Deal(l, bad)
	}
	overwrite(dealt)
	if !slices.Equal(all, []int{2, 0, 1, 77, 78, 79}) || !slices.Equal(allDraws, []int{0, 0, 1, 77, 78, 79}) {
		t.Errorf("the arguments are now %v and %v", all, allDraws)
	}
	none, all := spare()
	dealt, _ = Deal(none, none)
	overwrite(dealt)
	if !slices.Equal(all, []int{77, 78, 79}) {
		t.Errorf("behind no elements there is now %v", all)
	}
}

// overwrite changes all of l, with its spare capacity.
func overwrite(l []int) {
	l = l[:cap(l)]
	for i := range l {
		l[i] = -5
	}
}

// P2: results are new each time, and depend on the arguments alone.
func TestResultsNew(t *testing.T) {
	for range 3 {
		l, _ := Order(4, 10)
		other, _ := Order(4, 11)
		dealt, _ := Deal(l, []int{0, 0, 0, 0})
		if !slices.Equal(l, []int{1, 3, 0, 2}) || !slices.Equal(dealt, []int{2, 1, 3, 0}) {
			t.Errorf("Order(4, 10) = %v, dealt %v", l, dealt)
		}
		overwrite(l)
		if !slices.Equal(other, []int{1, 3, 2, 0}) || !slices.Equal(dealt, []int{2, 1, 3, 0}) {
			t.Errorf("after a change of another result: %v, %v", other, dealt)
		}
		overwrite(other)
		overwrite(dealt)
	}
}
