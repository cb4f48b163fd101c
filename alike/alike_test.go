package alike

import (
	"math"
	"slices"
	"testing"

	"cullender/api"
	"cullender/digit"
)

// invalidOrders has lists that are no permutations, with the error that First
// and Sign return for them, whatever the set.
var invalidOrders = []struct {
	name  string
	order []int
	want  api.Errno
}{
	{"13 numbers", rising(13), api.ErrLarge},
	{"13 numbers out of range", slices.Repeat([]int{-1}, 13), api.ErrLarge},
	{"1000 numbers", make([]int, 1000), api.ErrLarge},
	{"only 1", []int{1}, api.ErrArg},
	{"only -1", []int{-1}, api.ErrArg},
	{"a number as great as the length", []int{0, 1, 3}, api.ErrArg},
	{"out of range twice", []int{5, 5}, api.ErrArg},
	{"the greatest number", []int{0, math.MaxInt}, api.ErrArg},
	{"the least number", []int{math.MinInt, 0}, api.ErrArg},
	{"0 twice", []int{0, 0}, api.ErrThere},
	{"a number twice, far apart", []int{2, 0, 1, 2}, api.ErrThere},
	{"a number twice, then one out of range", []int{1, 1, 3}, api.ErrThere},
	{"one out of range, then a number twice", []int{3, 1, 1}, api.ErrArg},
}

// invalidSets has lists that are no sets for a valid permutation, with the
// error that First and Sign return for them.
var invalidSets = []struct {
	name     string
	order, l []int
	want     api.Errno
}{
	{"an element more than the permutation has", []int{2, 0, 1}, rising(4), api.ErrLarge},
	{"an element and an empty permutation", nil, []int{0}, api.ErrLarge},
	{"an element out of range and an empty permutation", nil, []int{-1}, api.ErrLarge},
	{"too many elements, out of range", []int{0}, []int{-1, -1}, api.ErrLarge},
	{"too many elements, falling", []int{1, 0}, []int{2, 1, 0}, api.ErrLarge},
	{"13 elements of 12", rising(12), rising(13), api.ErrLarge},
	{"1000 elements of 12", rising(12), make([]int, 1000), api.ErrLarge},
	{"-1", []int{2, 0, 1}, []int{-1}, api.ErrArg},
	{"as great as the length", []int{2, 0, 1}, []int{3}, api.ErrArg},
	{"as great as the length 1", []int{0}, []int{1}, api.ErrArg},
	{"12 of 12", rising(12), []int{0, 12}, api.ErrArg},
	{"the greatest integer", []int{2, 0, 1}, []int{0, math.MaxInt}, api.ErrArg},
	{"the least integer", []int{2, 0, 1}, []int{math.MinInt, 0}, api.ErrArg},
	{"-1 at the end, not rising either", []int{2, 0, 1}, []int{0, 1, -1}, api.ErrArg},
	{"3 twice", []int{2, 0, 1}, []int{0, 3, 3}, api.ErrArg},
	{"-1 before equal elements", []int{2, 0, 1}, []int{-1, 1, 1}, api.ErrArg},
	{"equal elements", []int{2, 0, 1}, []int{1, 1}, api.ErrForm},
	{"equal elements 0", []int{2, 0, 1}, []int{0, 0}, api.ErrForm},
	{"falling", []int{2, 0, 1}, []int{2, 0}, api.ErrForm},
	{"falling at the end", []int{2, 0, 1, 3}, []int{0, 3, 2}, api.ErrForm},
	{"falling from the second to the third only", []int{2, 0, 1}, []int{0, 2, 1}, api.ErrForm},
	{"equal before -1", []int{2, 0, 1}, []int{1, 1, -1}, api.ErrForm},
	{"falling before 3", []int{2, 0, 1}, []int{1, 0, 3}, api.ErrForm},
	{"no elements", []int{2, 0, 1}, nil, api.ErrNone},
	{"an empty list", []int{2, 0, 1}, []int{}, api.ErrNone},
	{"no elements and an empty permutation", nil, nil, api.ErrNone},
	{"no elements of 12", rising(12), nil, api.ErrNone},
}

// rising returns the numbers 0 to n - 1.
func rising(n int) []int {
	l := make([]int, n)
	for i := range l {
		l[i] = i
	}
	return l
}

// permutations returns all permutations of n.
func permutations(n int) [][]int {
	var all [][]int
	for {
		order, err := digit.Order(n, len(all))
		if err != api.OK {
			return all
		}
		all = append(all, order)
	}
}

// members returns the set of the numbers whose bits are set.
func members(set int) []int {
	var l []int
	for i := 0; set>>i > 0; i++ {
		if set>>i&1 == 1 {
			l = append(l, i)
		}
	}
	return l
}

// firstByPosition goes through the positions from 0 on, until an element of l
// has one.
func firstByPosition(order, l []int) int {
	for position := range order {
		for _, x := range l {
			if order[x] == position {
				return x
			}
		}
	}
	return -1
}

// P43: given permutations and sets.
func TestFirst(t *testing.T) {
	long := []int{5, 11, 0, 3, 8, 1, 10, 2, 7, 4, 9, 6}
	for _, c := range []struct {
		name     string
		order, l []int
		want     int
	}{
		{"the last of two", []int{2, 0, 1}, []int{0, 2}, 2},
		{"the first of two", []int{0, 2, 1}, []int{0, 2}, 0},
		{"the only one", []int{0}, []int{0}, 0},
		{"one of three, with the last position", []int{2, 0, 1}, []int{0}, 0},
		{"one of three, with the first position", []int{2, 0, 1}, []int{1}, 1},
		{"all of three", []int{2, 0, 1}, []int{0, 1, 2}, 1},
		{"positions of elements, not elements at positions", []int{1, 2, 0}, []int{0, 1}, 0},
		{"all of 12", long, rising(12), 2},
		{"all but one of 12", long, []int{0, 1, 3, 4, 5, 6, 7, 8, 9, 10, 11}, 5},
		{"the ends of 12", long, []int{0, 11}, 0},
		{"two of 12", long, []int{1, 6}, 6},
		{"the last of 12", long, []int{11}, 11},
		{"all of 12 in order", rising(12), rising(12), 0},
	} {
		if got, err := First(c.order, c.l); got != c.want || err != api.OK {
			t.Errorf("%s: First(%v, %v) = %d, %d, want %d, OK", c.name, c.order, c.l, got, err, c.want)
		}
	}
}

// P43: what is not a permutation comes first, whatever the set.
func TestFirstOrders(t *testing.T) {
	for _, c := range invalidOrders {
		for _, l := range [][]int{nil, {0}, {0, 1}, {-1}, {1, 1}, {1, 0}, {12}, rising(12), rising(13), rising(1001)} {
			if got, err := First(c.order, l); got != 0 || err != c.want {
				t.Errorf("%s: First(%v, %v) = %d, %d, want 0, %d", c.name, c.order, l, got, err, c.want)
			}
		}
	}
}

// P43: what is not a set, and of several errors the first.
func TestFirstInvalid(t *testing.T) {
	for _, c := range invalidSets {
		if got, err := First(c.order, c.l); got != 0 || err != c.want {
			t.Errorf("%s: First(%v, %v) = %d, %d, want 0, %d", c.name, c.order, c.l, got, err, c.want)
		}
	}
}

// setError returns the error of a list as a set for a permutation of n.
func setError(n int, l []int) api.Errno {
	if len(l) > n {
		return api.ErrLarge
	}
	for i := range l {
		if l[i] < 0 || l[i] >= n {
			return api.ErrArg
		}
		if i > 0 && l[i-1] >= l[i] {
			return api.ErrForm
		}
	}
	if len(l) == 0 {
		return api.ErrNone
	}
	return api.OK
}

// eachList calls do with all lists of up to n numbers from low to high.
func eachList(n, low, high int, do func(l []int)) {
	var extend func(l []int)
	extend = func(l []int) {
		do(l)
		if len(l) == n {
			return
		}
		for x := low; x <= high; x++ {
			extend(append(l[:len(l):len(l)], x))
		}
	}
	extend(nil)
}

// P43: all permutations of up to 4 with all lists of up to 5 small numbers.
func TestFirstLists(t *testing.T) {
	for n := range 5 {
		for _, order := range permutations(n) {
			eachList(5, -1, 4, func(l []int) {
				want, wantErr := 0, setError(n, l)
				if wantErr == api.OK {
					want = firstByPosition(order, l)
				}
				if got, err := First(order, l); got != want || err != wantErr {
					t.Fatalf("First(%v, %v) = %d, %d, want %d, %d", order, l, got, err, want, wantErr)
				}
			})
		}
	}
}

// P43: over all permutations, each element of a set is first equally often.
func TestFirstFair(t *testing.T) {
	for n := 1; n <= 6; n++ {
		all := permutations(n)
		for set := 1; set < 1<<n; set++ {
			l := members(set)
			counts := make([]int, n)
			for _, order := range all {
				first, err := First(order, l)
				if err != api.OK {
					t.Fatalf("First(%v, %v): error %d", order, l, err)
				}
				counts[first]++
			}
			for x, count := range counts {
				want := 0
				if slices.Contains(l, x) {
					want = len(all) / len(l)
				}
				if count != want {
					t.Errorf("of %v in all orders of %d, %d is first %d times, want %d", l, n, x, count, want)
				}
			}
		}
	}
}

// P43: what is first of two sets together is first of the one or the other.
func TestFirstJoined(t *testing.T) {
	for _, order := range permutations(5) {
		for a := 1; a < 1<<5; a++ {
			for b := 1; b < 1<<5; b++ {
				firstA, _ := First(order, members(a))
				firstB, _ := First(order, members(b))
				want := firstA
				if order[firstB] < order[firstA] {
					want = firstB
				}
				if got, err := First(order, members(a|b)); got != want || err != api.OK {
					t.Fatalf("First(%v, %v) = %d, %d, want %d, OK", order, members(a|b), got, err, want)
				}
			}
		}
	}
}

// P44: given signatures.
func TestSign(t *testing.T) {
	for _, c := range []struct {
		name   string
		orders [][]int
		l      []int
		want   []int
	}{
		{"two orders", [][]int{{0, 1}, {1, 0}}, []int{0, 1}, []int{0, 1}},
		{"two orders, turned", [][]int{{1, 0}, {0, 1}}, []int{0, 1}, []int{1, 0}},
		{"one order", [][]int{{2, 0, 1}}, []int{0, 2}, []int{2}},
		{"equal orders", [][]int{{2, 0, 1}, {2, 0, 1}}, []int{0, 2}, []int{2, 2}},
		{"one element", [][]int{{2, 0, 1}, {0, 1, 2}, {1, 2, 0}}, []int{1}, []int{1, 1, 1}},
		{"orders of different lengths", [][]int{{1, 0}, {2, 1, 0}, {0, 2, 3, 1}}, []int{0, 1}, []int{1, 1, 0}},
		{"orders of 12", [][]int{rising(12), {11, 10, 9, 8, 7, 6, 5, 4, 3, 2, 1, 0}}, rising(12), []int{0, 11}},
		{"40 orders", slices.Repeat([][]int{{1, 0}, {0, 1}}, 20), []int{0, 1}, slices.Repeat([]int{1, 0}, 20)},
		{"no orders", nil, []int{0}, nil},
		{"an empty list of orders", [][]int{}, []int{0}, nil},
		// First is called for no order, so that no error comes from it.
		{"no orders and no elements", nil, nil, nil},
		{"no orders and no set", nil, []int{1, -1}, nil},
	} {
		if got, err := Sign(c.orders, c.l); !slices.Equal(got, c.want) || err != api.OK {
			t.Errorf("%s: Sign(%v, %v) = %v, %d, want %v, OK", c.name, c.orders, c.l, got, err, c.want)
		}
	}
}

// P44: all permutations of 4, with all sets.
func TestSignAll(t *testing.T) {
	orders := permutations(4)
	for set := 1; set < 1<<4; set++ {
		l := members(set)
		var want []int
		for _, order := range orders {
			want = append(want, firstByPosition(order, l))
		}
		if got, err := Sign(orders, l); !slices.Equal(got, want) || err != api.OK {
			t.Errorf("Sign of %v = %v, %d, want %v, OK", l, got, err, want)
		}
	}
}

// P44: too many permutations come first, even if there are other errors.
func TestSignLarge(t *testing.T) {
	for _, order := range [][]int{{0, 1}, {0, 0}, {-1}, nil, rising(13)} {
		for _, l := range [][]int{{0, 1}, {0}, nil, {1, 1}, {-1}, rising(13)} {
			for _, n := range []int{41, 42, 1000} {
				if got, err := Sign(slices.Repeat([][]int{order}, n), l); len(got) != 0 || err != api.ErrLarge {
					t.Errorf("Sign of %d orders %v, %v = %v, %d, want none, ErrLarge", n, order, l, got, err)
				}
			}
		}
	}
}

// P44: each error of First, from the first of the permutations, the last, and
// of 40 the last.
func TestSignInvalid(t *testing.T) {
	check := func(name string, orders [][]int, l []int, want api.Errno) {
		t.Helper()
		if got, err := Sign(orders, l); len(got) != 0 || err != want {
			t.Errorf("%s: Sign(%v, %v) = %v, %d, want none, %d", name, orders, l, got, err, want)
		}
	}
	valid := []int{2, 0, 1}
	for _, c := range invalidOrders {
		check(c.name, [][]int{c.order}, []int{0}, c.want)
		check(c.name, [][]int{c.order, valid}, []int{0}, c.want)
		check(c.name, [][]int{valid, c.order}, []int{0}, c.want)
		check(c.name, append(slices.Repeat([][]int{valid}, 39), c.order), []int{0}, c.want)
	}
	for _, c := range invalidSets {
		check(c.name, [][]int{c.order}, c.l, c.want)
		check(c.name, slices.Repeat([][]int{c.order}, 40), c.l, c.want)
	}
}

// P44: of the errors of several permutations the first.
func TestSignFirstError(t *testing.T) {
	for _, c := range []struct {
		name   string
		orders [][]int
		l      []int
		want   api.Errno
	}{
		{"wrong, then double", [][]int{{5, 0}, {0, 0}}, []int{0}, api.ErrArg},
		{"double, then wrong", [][]int{{0, 0}, {5, 0}}, []int{0}, api.ErrThere},
		{"too short for the set, then double", [][]int{{0}, {0, 0}}, []int{0, 1}, api.ErrLarge},
		{"double, then too short for the set", [][]int{{0, 0}, {0}}, []int{0, 1}, api.ErrThere},
		{"the set is too great for the second", [][]int{{0, 1, 2}, {0, 1}}, []int{0, 2}, api.ErrArg},
		{"the set has too many for the second", [][]int{{0, 1, 2}, {0, 1}}, []int{0, 1, 2}, api.ErrLarge},
		{"no set, then no order", [][]int{{0, 1}, {0, 0}}, []int{1, 0}, api.ErrForm},
		{"no elements, then no order", [][]int{{0, 1}, {0, 0}}, nil, api.ErrNone},
		{"an empty order", [][]int{{0, 1}, nil}, []int{0}, api.ErrLarge},
		{"an empty order alone, and no elements", [][]int{nil}, nil, api.ErrNone},
	} {
		if got, err := Sign(c.orders, c.l); len(got) != 0 || err != c.want {
			t.Errorf("%s: Sign(%v, %v) = %v, %d, want none, %d", c.name, c.orders, c.l, got, err, c.want)
		}
	}
}

// P45: given signatures, of any numbers.
func TestSame(t *testing.T) {
	for _, c := range []struct {
		name string
		a, b []int
		want int
	}{
		{"nothing", nil, nil, 0},
		{"nil and an empty list", nil, []int{}, 0},
		{"an empty list and nil", []int{}, nil, 0},
		{"one equal", []int{1}, []int{1}, 1},
		{"one different", []int{1}, []int{2}, 0},
		{"the first of two", []int{1, 2}, []int{1, 3}, 1},
		{"the last of two", []int{1, 3}, []int{2, 3}, 1},
		{"both of two", []int{1, 3}, []int{1, 3}, 2},
		{"equal numbers at other indices", []int{1, 2}, []int{2, 1}, 0},
		{"zeros", []int{0, 0, 0}, []int{0, 0, 0}, 3},
		{"one inside", []int{1, 2, 3}, []int{3, 2, 1}, 1},
		{"numbers that belong to no set", []int{-1, math.MaxInt, math.MinInt, 1000}, []int{-1, math.MaxInt, math.MinInt, -1000}, 3},
		{"40 equal", rising(40), rising(40), 40},
		{"40, one different", rising(40), append(rising(39), 40), 39},
	} {
		if got, err := Same(c.a, c.b); got != c.want || err != api.OK {
			t.Errorf("%s: Same(%v, %v) = %d, %d, want %d, OK", c.name, c.a, c.b, got, err, c.want)
		}
	}
}

// P45: all lengths; too long a signature comes before different lengths.
func TestSameLengths(t *testing.T) {
	for n := range 45 {
		for m := range 45 {
			want, wantErr := 0, api.ErrLen
			switch {
			case n > 40 || m > 40:
				wantErr = api.ErrLarge
			case n == m:
				want, wantErr = n, api.OK
			}
			if got, err := Same(rising(n), rising(m)); got != want || err != wantErr {
				t.Errorf("Same of %d and %d numbers = %d, %d, want %d, %d", n, m, got, err, want, wantErr)
			}
		}
	}
}

// P45: all pairs of lists of up to 4 small numbers.
func TestSameAll(t *testing.T) {
	eachList(4, 0, 2, func(a []int) {
		eachList(len(a), 0, 2, func(b []int) {
			if len(a) != len(b) {
				return
			}
			want := 0
			for i := range a {
				if a[i] == b[i] {
					want++
				}
			}
			if got, err := Same(a, b); got != want || err != api.OK {
				t.Errorf("Same(%v, %v) = %d, %d, want %d, OK", a, b, got, err, want)
			}
		})
	})
}

// P43, P44, P45: over all permutations, the part of equal indices is the part
// of the elements of two sets that both of them have.
func TestLikeness(t *testing.T) {
	orders := permutations(4)
	for a := 1; a < 1<<4; a++ {
		for b := 1; b < 1<<4; b++ {
			signA, _ := Sign(orders, members(a))
			signB, _ := Sign(orders, members(b))
			want := len(orders) * len(members(a&b)) / len(members(a|b))
			if got, err := Same(signA, signB); got != want || err != api.OK {
				t.Errorf("Same of the signatures of %v and %v = %d, %d, want %d, OK", members(a), members(b), got, err, want)
			}
		}
	}
}

// P1: no function panics, whatever its arguments, and no result comes with an error.
func TestAnything(t *testing.T) {
	numbers := []int{0, 1, 2, 11, 12, 13, 40, 1 << 32, -1, math.MaxInt, math.MinInt}
	lists := [][]int{nil, rising(1), rising(2), rising(3), rising(12), rising(13), rising(40), rising(41)}
	for _, n := range []int{1, 2, 11, 12, 13, 40, 41, 100} {
		for _, x := range numbers {
			lists = append(lists, slices.Repeat([]int{x}, n))
		}
	}
	for _, a := range lists {
		for _, b := range lists {
			if got, err := First(a, b); err != api.OK && got != 0 || err == api.OK && !slices.Contains(b, got) {
				t.Errorf("First(%v, %v) = %d, %d", a, b, got, err)
			}
			if got, err := Same(a, b); err != api.OK && got != 0 {
				t.Errorf("Same(%v, %v) = %d, %d", a, b, got, err)
			}
			for _, n := range []int{0, 1, 2, 40, 41} {
				orders := slices.Repeat([][]int{a}, n)
				if got, err := Sign(orders, b); err != api.OK && len(got) != 0 || err == api.OK && len(got) != n {
					t.Errorf("Sign(%v, %v) = %v, %d", orders, b, got, err)
				}
			}
		}
	}
}

// spare returns a list of the numbers with spare capacity, and all that it has.
func spare(numbers ...int) (l, all []int) {
	all = append(slices.Clone(numbers), 77, 78, 79)
	return all[:len(numbers)], all
}

// overwrite changes all of l, with its spare capacity.
func overwrite(l []int) {
	l = l[:cap(l)]
	for i := range l {
		l[i] = -5
	}
}

// P2: the arguments stay as they are, and so does their spare capacity, even
// if the results are changed.
func TestArgumentsKept(t *testing.T) {
	first, allFirst := spare(2, 0, 1)
	second, allSecond := spare(0, 1, 2)
	l, allL := spare(0, 2)
	allOrders := [][]int{first, second, {7}}
	orders := allOrders[:2]
	First(first, l)
	First(l, first)
	signed, _ := Sign(orders, l)
	again, _ := Sign(orders, l)
	Sign(allOrders, l)
	Same(first, second)
	Same(first, l)
	Same(signed, l)
	if !slices.Equal(signed, []int{2, 0}) {
		t.Errorf("Same changed a signature to %v", signed)
	}
	overwrite(signed)
	if !slices.Equal(again, []int{2, 0}) {
		t.Errorf("after a change of another result: %v", again)
	}
	if !slices.Equal(allFirst, []int{2, 0, 1, 77, 78, 79}) || !slices.Equal(allSecond, []int{0, 1, 2, 77, 78, 79}) || !slices.Equal(allL, []int{0, 2, 77, 78, 79}) {
		t.Errorf("the arguments are now %v, %v, %v", allFirst, allSecond, allL)
	}
	if !slices.Equal(allOrders[0], []int{2, 0, 1}) || !slices.Equal(allOrders[1], []int{0, 1, 2}) || !slices.Equal(allOrders[2], []int{7}) {
		t.Errorf("the list of the orders is now %v", allOrders)
	}
}

// P2: results do not change with the arguments, and depend on the arguments alone.
func TestResultsNew(t *testing.T) {
	for range 3 {
		order, l := []int{2, 0, 1}, []int{0, 2}
		signed, err := Sign([][]int{order, order}, l)
		Sign([][]int{{0, 0}}, l)
		First(nil, nil)
		overwrite(order)
		overwrite(l)
		if !slices.Equal(signed, []int{2, 2}) || err != api.OK {
			t.Errorf("Sign = %v, %d, want 2, 2, OK", signed, err)
		}
		overwrite(signed)
	}
}
