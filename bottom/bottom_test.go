package bottom

import (
	"math"
	"math/big"
	"slices"
	"testing"

	"cullender/api"
)

const top = 1<<56 - 1 // the greatest random value

// sketch returns a sketch of the size k with these numbers.
func sketch(k int, nums ...int) api.Bottom {
	return api.Bottom{K: k, Nums: nums}
}

// rising returns n numbers from first on.
func rising(n, first int) []int {
	l := make([]int, n)
	for i := range l {
		l[i] = first + i
	}
	return l
}

func equal(a, b api.Bottom) bool {
	return a.K == b.K && slices.Equal(a.Nums, b.Nums)
}

// isZero reports whether b is what comes with an error.
func isZero(b api.Bottom) bool {
	return b.K == 0 && len(b.Nums) == 0
}

// valid has sketches without an error.
var valid = []struct {
	name string
	b    api.Bottom
}{
	{"empty, of size 1", sketch(1)},
	{"empty, with an empty list", api.Bottom{K: 1, Nums: []int{}}},
	{"empty, of size 40", sketch(40)},
	{"the least number", sketch(1, 0)},
	{"the greatest number", sketch(1, top)},
	{"the least and the greatest", sketch(2, 0, top)},
	{"partly filled", sketch(3, 5, 6)},
	{"full", sketch(3, 5, 6, 1000)},
	{"39 of 40", sketch(40, rising(39, 0)...)},
	{"40 of 40", sketch(40, rising(40, 0)...)},
	{"the 40 greatest", sketch(40, rising(40, 1<<56-40)...)},
}

// invalid has sketches with the error of Check, which all functions return.
var invalid = []struct {
	name string
	b    api.Bottom
	want api.Errno
}{
	{"nothing set", api.Bottom{}, api.ErrArg},
	{"size 0 and a number", sketch(0, 5), api.ErrArg},
	{"size -1", sketch(-1), api.ErrArg},
	{"size -1 and wrong numbers", sketch(-1, 5, 5, -1), api.ErrArg},
	{"size 41", sketch(41), api.ErrArg},
	{"size 41, full", sketch(41, rising(41, 0)...), api.ErrArg},
	{"size 41, overfull", sketch(41, rising(42, 0)...), api.ErrArg},
	{"the greatest size", sketch(math.MaxInt, 5), api.ErrArg},
	{"the least size", sketch(math.MinInt, 5), api.ErrArg},
	{"a number too many", sketch(1, 5, 6), api.ErrLarge},
	{"a number too many, of 3", sketch(3, 5, 6, 7, 8), api.ErrLarge},
	{"a number too many, all wrong", sketch(1, -1, -1), api.ErrLarge},
	{"a number too many, not rising", sketch(2, 7, 6, 5), api.ErrLarge},
	{"41 of 40", sketch(40, rising(41, 0)...), api.ErrLarge},
	{"1000 of 40", sketch(40, rising(1000, 0)...), api.ErrLarge},
	{"-1", sketch(1, -1), api.ErrArg},
	{"2^56", sketch(1, 1<<56), api.ErrArg},
	{"the least integer", sketch(1, math.MinInt), api.ErrArg},
	{"the greatest integer", sketch(1, math.MaxInt), api.ErrArg},
	{"2^56 at the end", sketch(3, 5, 6, 1<<56), api.ErrArg},
	{"-1 at the end, not rising either", sketch(3, 5, 6, -1), api.ErrArg},
	{"2^56 twice", sketch(3, 5, 1<<56, 1<<56), api.ErrArg},
	{"-1 before equal numbers", sketch(3, -1, 5, 5), api.ErrArg},
	{"equal numbers", sketch(2, 5, 5), api.ErrForm},
	{"equal numbers 0", sketch(2, 0, 0), api.ErrForm},
	{"falling", sketch(2, 6, 5), api.ErrForm},
	{"falling to 0", sketch(2, 1, 0), api.ErrForm},
	{"equal at the end", sketch(4, 5, 6, 7, 7), api.ErrForm},
	{"equal, not side by side", sketch(4, 5, 6, 5), api.ErrForm},
	{"equal before -1", sketch(3, 5, 5, -1), api.ErrForm},
	{"falling before 2^56", sketch(3, 6, 5, 1<<56), api.ErrForm},
	{"the last two of 40", sketch(40, append(rising(39, 0), 38)...), api.ErrForm},
}

// P39: valid sketches.
func TestCheckValid(t *testing.T) {
	for _, c := range valid {
		if err := Check(c.b); err != api.OK {
			t.Errorf("%s: Check(%v) = %d, want OK", c.name, c.b, err)
		}
	}
}

// P39: invalid sketches, and of several errors the first.
func TestCheckInvalid(t *testing.T) {
	for _, c := range invalid {
		if err := Check(c.b); err != c.want {
			t.Errorf("%s: Check(%v) = %d, want %d", c.name, c.b, err, c.want)
		}
	}
}

// P39: all sizes with all lengths.
func TestCheckLengths(t *testing.T) {
	for k := -1; k <= 42; k++ {
		for n := range 45 {
			want := api.OK
			switch {
			case k < 1 || k > 40:
				want = api.ErrArg
			case n > k:
				want = api.ErrLarge
			}
			if err := Check(sketch(k, rising(n, 3)...)); err != want {
				t.Errorf("Check of K %d and %d numbers = %d, want %d", k, n, err, want)
			}
		}
	}
}

// P39: all lists of up to 4 of a few numbers.
func TestCheckLists(t *testing.T) {
	for n := range 5 {
		eachList(n, []int{-1, 0, 1, top, 1 << 56}, func(l []int) {
			want := api.OK
			for i, x := range l {
				if x < 0 || x > top {
					want = api.ErrArg
					break
				}
				if i > 0 && x <= l[i-1] {
					want = api.ErrForm
					break
				}
			}
			if err := Check(sketch(4, l...)); err != want {
				t.Fatalf("Check of %v = %d, want %d", l, err, want)
			}
		})
	}
}

// eachList calls do with all lists of n of the numbers.
func eachList(n int, numbers []int, do func(l []int)) {
	l := make([]int, n)
	var place func(i int)
	place = func(i int) {
		if i == n {
			do(l)
			return
		}
		for _, x := range numbers {
			l[i] = x
			place(i + 1)
		}
	}
	place(0)
}

// P39: all other functions return the error of Check, before their own.
func TestOthersCheck(t *testing.T) {
	for _, c := range invalid {
		for _, n := range []int{0, 5, top, -1, 1 << 56} {
			if got, err := Put(c.b, n); !isZero(got) || err != c.want {
				t.Errorf("%s: Put(%v, %d) = %v, %d, want none, %d", c.name, c.b, n, got, err, c.want)
			}
		}
		if got, err := Many(c.b); got != 0 || err != c.want {
			t.Errorf("%s: Many(%v) = %d, %d, want 0, %d", c.name, c.b, got, err, c.want)
		}
		for _, other := range valid {
			if got, err := Join(c.b, other.b); !isZero(got) || err != c.want {
				t.Errorf("%s: Join(%v, %v) = %v, %d, want none, %d", c.name, c.b, other.b, got, err, c.want)
			}
			if got, err := Join(other.b, c.b); !isZero(got) || err != c.want {
				t.Errorf("%s: Join(%v, %v) = %v, %d, want none, %d", c.name, other.b, c.b, got, err, c.want)
			}
		}
		for _, other := range invalid {
			if got, err := Join(c.b, other.b); !isZero(got) || err != c.want {
				t.Errorf("%s and %s: Join(%v, %v) = %v, %d, want none, %d", c.name, other.name, c.b, other.b, got, err, c.want)
			}
		}
	}
}

// P40: a number that is inserted, contained or too great.
func TestPut(t *testing.T) {
	for _, c := range []struct {
		name string
		b    api.Bottom
		n    int
		want api.Bottom
	}{
		{"the first", sketch(1), 5, sketch(1, 5)},
		{"the first of 40", sketch(40), 5, sketch(40, 5)},
		{"the least number", sketch(2), 0, sketch(2, 0)},
		{"the greatest number", sketch(2), top, sketch(2, top)},
		{"at the start", sketch(3, 5, 7), 4, sketch(3, 4, 5, 7)},
		{"inside", sketch(3, 5, 7), 6, sketch(3, 5, 6, 7)},
		{"at the end", sketch(3, 5, 7), 8, sketch(3, 5, 7, 8)},
		{"contained, at the start", sketch(3, 5, 7), 5, sketch(3, 5, 7)},
		{"contained, at the end", sketch(3, 5, 7), 7, sketch(3, 5, 7)},
		{"7 after 9 and 5", sketch(2, 5, 9), 7, sketch(2, 5, 7)},
		{"full, at the start", sketch(3, 5, 7, 9), 4, sketch(3, 4, 5, 7)},
		{"full, inside", sketch(3, 5, 7, 9), 6, sketch(3, 5, 6, 7)},
		{"full, in place of the last", sketch(3, 5, 7, 9), 8, sketch(3, 5, 7, 8)},
		{"full, too great", sketch(3, 5, 7, 9), 10, sketch(3, 5, 7, 9)},
		{"full, contained at the start", sketch(3, 5, 7, 9), 5, sketch(3, 5, 7, 9)},
		{"full, contained inside", sketch(3, 5, 7, 9), 7, sketch(3, 5, 7, 9)},
		{"full, contained at the end", sketch(3, 5, 7, 9), 9, sketch(3, 5, 7, 9)},
		{"size 1, smaller", sketch(1, 5), 4, sketch(1, 4)},
		{"size 1, equal", sketch(1, 5), 5, sketch(1, 5)},
		{"size 1, greater", sketch(1, 5), 6, sketch(1, 5)},
		{"size 40, becomes full", sketch(40, rising(39, 1)...), 0, sketch(40, rising(40, 0)...)},
		{"size 40, full", sketch(40, rising(40, 1)...), 0, sketch(40, rising(40, 0)...)},
		{"size 40, too great", sketch(40, rising(40, 0)...), 40, sketch(40, rising(40, 0)...)},
	} {
		if got, err := Put(c.b, c.n); !equal(got, c.want) || err != api.OK {
			t.Errorf("%s: Put(%v, %d) = %v, %d, want %v, OK", c.name, c.b, c.n, got, err, c.want)
		}
	}
}

// P40: numbers out of range, also where they would not be retained.
func TestPutInvalid(t *testing.T) {
	for _, c := range valid {
		for _, n := range []int{-1, 1 << 56, 1<<56 + 1, math.MaxInt, math.MinInt} {
			if got, err := Put(c.b, n); !isZero(got) || err != api.ErrArg {
				t.Errorf("%s: Put(%v, %d) = %v, %d, want none, ErrArg", c.name, c.b, n, got, err)
			}
		}
	}
}

// smallest returns the sketch of all numbers of l below 10, by counting up.
func smallest(k int, l []int) api.Bottom {
	b := api.Bottom{K: k}
	for n := range 10 {
		if slices.Contains(l, n) && len(b.Nums) < k {
			b.Nums = append(b.Nums, n)
		}
	}
	return b
}

// putAll returns the sketch after all numbers of l were added.
func putAll(t *testing.T, k int, l []int) api.Bottom {
	t.Helper()
	b := api.Bottom{K: k}
	for _, n := range l {
		next, err := Put(b, n)
		if err != api.OK || Check(next) != api.OK {
			t.Fatalf("Put(%v, %d) = %v, %d", b, n, next, err)
		}
		b = next
	}
	return b
}

// P40: all lists of 5 numbers, in any order and with any repetition.
func TestPutAll(t *testing.T) {
	for k := 1; k <= 6; k++ {
		eachList(5, rising(5, 0), func(l []int) {
			if got, want := putAll(t, k, l), smallest(k, l); !equal(got, want) {
				t.Fatalf("Put of all of %v with K %d: %v, want %v", l, k, got, want)
			}
		})
	}
}

// P41: given sketches.
func TestJoin(t *testing.T) {
	for _, c := range []struct {
		name       string
		a, b, want api.Bottom
	}{
		{"both empty", sketch(2), sketch(2), sketch(2)},
		{"nil and an empty list", sketch(2), api.Bottom{K: 2, Nums: []int{}}, sketch(2)},
		{"the first empty", sketch(2), sketch(2, 5, 6), sketch(2, 5, 6)},
		{"the second empty", sketch(2, 5, 6), sketch(2), sketch(2, 5, 6)},
		{"there is room for all", sketch(4, 5, 7), sketch(4, 6, 8), sketch(4, 5, 6, 7, 8)},
		{"room for more", sketch(9, 5, 7), sketch(9, 6, 8), sketch(9, 5, 6, 7, 8)},
		{"some of both", sketch(2, 5, 7), sketch(2, 6), sketch(2, 5, 6)},
		{"only the first", sketch(2, 1, 2), sketch(2, 3, 4), sketch(2, 1, 2)},
		{"only the second", sketch(2, 3, 4), sketch(2, 1, 2), sketch(2, 1, 2)},
		{"equal sketches", sketch(3, 5, 6, 7), sketch(3, 5, 6, 7), sketch(3, 5, 6, 7)},
		{"numbers of both count once", sketch(3, 5, 6, 9), sketch(3, 5, 6, 8), sketch(3, 5, 6, 8)},
		{"numbers of both, not full", sketch(4, 5, 6), sketch(4, 5, 7), sketch(4, 5, 6, 7)},
		{"size 1", sketch(1, 5), sketch(1, 4), sketch(1, 4)},
		{"the least and the greatest", sketch(2, top), sketch(2, 0), sketch(2, 0, top)},
		{"size 40", sketch(40, rising(40, 20)...), sketch(40, rising(40, 0)...), sketch(40, rising(40, 0)...)},
		{"size 40, half of each", sketch(40, rising(20, 0)...), sketch(40, rising(40, 20)...), sketch(40, rising(40, 0)...)},
	} {
		if got, err := Join(c.a, c.b); !equal(got, c.want) || err != api.OK {
			t.Errorf("%s: Join(%v, %v) = %v, %d, want %v, OK", c.name, c.a, c.b, got, err, c.want)
		}
	}
}

// P41: sketches of different sizes, also empty ones.
func TestJoinSizes(t *testing.T) {
	for k := 1; k <= 40; k++ {
		for m := 1; m <= 40; m++ {
			want := api.OK
			if k != m {
				want = api.ErrLen
			}
			for _, n := range []int{0, 1, min(k, m)} {
				got, err := Join(sketch(k, rising(n, 0)...), sketch(m, rising(n, 0)...))
				if err != want || err != api.OK && !isZero(got) || err == api.OK && got.K != k {
					t.Errorf("Join of the sizes %d and %d = %v, %d, want %d", k, m, got, err, want)
				}
			}
		}
	}
}

// P40, P41: joined sketches equal one sketch of all numbers, in any order.
func TestJoinAll(t *testing.T) {
	for k := 1; k <= 4; k++ {
		eachList(6, rising(4, 0), func(l []int) {
			want := smallest(k, l)
			for cut := range len(l) + 1 {
				a, b := putAll(t, k, l[:cut]), putAll(t, k, l[cut:])
				for _, pair := range [][2]api.Bottom{{a, b}, {b, a}, {a, want}, {want, b}} {
					if got, err := Join(pair[0], pair[1]); !equal(got, want) || err != api.OK {
						t.Fatalf("Join(%v, %v) = %v, %d, want %v, OK", pair[0], pair[1], got, err, want)
					}
				}
			}
		})
	}
}

// P41: three sketches, in both groupings.
func TestJoinGroups(t *testing.T) {
	var all []api.Bottom
	for set := range 1 << 5 {
		var l []int
		for n := range 5 {
			if set>>n&1 == 1 {
				l = append(l, n)
			}
		}
		all = append(all, smallest(3, l))
	}
	for _, a := range all {
		for _, b := range all {
			for _, c := range all {
				first, _ := Join(a, b)
				left, _ := Join(first, c)
				last, _ := Join(b, c)
				right, _ := Join(a, last)
				if !equal(left, right) || left.K != 3 {
					t.Fatalf("Join of %v, %v and %v: %v or %v", a, b, c, left, right)
				}
			}
		}
	}
}

// P42: estimates of given sketches.
func TestMany(t *testing.T) {
	for _, c := range []struct {
		name string
		b    api.Bottom
		want int
	}{
		{"empty", sketch(1), 0},
		{"empty, of size 40", sketch(40), 0},
		{"one of two", sketch(2, 5), 1},
		{"0, not full", sketch(2, 0), 1},
		{"two of three", sketch(3, 0, top), 2},
		{"39 of 40", sketch(40, rising(39, 0)...), 39},
		{"size 1", sketch(1, 5), 0},
		{"size 1, the least that divides", sketch(1, 1), 0},
		{"size 1, the greatest", sketch(1, top), 0},
		{"a half", sketch(2, 5, 1<<55), 2},
		{"a half, of size 3", sketch(3, 1, 2, 1<<55), 4},
		{"the greatest", sketch(2, 5, top), 1},
		{"the greatest, of size 3", sketch(3, 4, 5, top), 2},
		{"the greatest, of size 40", sketch(40, rising(40, 1<<56-40)...), 39},
		{"a little less than a half", sketch(2, 5, 1<<55-1), 2},
		{"a little more than a half", sketch(2, 5, 1<<55+1), 1},
		{"rounded down", sketch(2, 0, 3), 24019198012642645},
		{"rounded down, of size 3", sketch(3, 0, 1, 5), 28823037615171174},
		{"0 and 1", sketch(2, 0, 1), 1 << 56},
		{"the least of size 40", sketch(40, rising(40, 0)...), 1 << 56},
		{"39 parts of 40", sketch(40, rising(40, 1)...), 70256154186979737},
	} {
		if got, err := Many(c.b); got != c.want || err != api.OK {
			t.Errorf("%s: Many(%v) = %d, %d, want %d, OK", c.name, c.b, got, err, c.want)
		}
	}
}

// P42: only a full sketch of the number 0 alone divides by 0.
func TestManyZero(t *testing.T) {
	if got, err := Many(sketch(1, 0)); got != 0 || err != api.ErrZero {
		t.Errorf("Many of 0 with K 1 = %d, %d, want 0, ErrZero", got, err)
	}
	for k := 2; k <= 40; k++ {
		if got, err := Many(sketch(k, 0)); got != 1 || err != api.OK {
			t.Errorf("Many of 0 with K %d = %d, %d, want 1, OK", k, got, err)
		}
	}
}

// P42: all sizes and many greatest numbers, as computed with integers of any size.
func TestManySizes(t *testing.T) {
	x := uint64(1)
	for i := range 8000 {
		k := i%40 + 1
		x = x*6364136223846793005 + 1442695040888963407
		greatest := max(int(x>>8)>>(i%51), k)
		b := sketch(k, append(rising(k-1, 0), greatest)...)
		want := new(big.Int).Lsh(big.NewInt(int64(k-1)), 56)
		want.Quo(want, big.NewInt(int64(greatest)))
		if got, err := Many(b); int64(got) != want.Int64() || err != api.OK {
			t.Fatalf("Many(%v) = %d, %d, want %v, OK", b, got, err, want)
		}
		b.Nums = b.Nums[:i%k]
		if got, err := Many(b); got != i%k || err != api.OK {
			t.Fatalf("Many(%v) = %d, %d, want %d, OK", b, got, err, i%k)
		}
	}
}

// P1: no function panics, whatever its arguments, and no result comes with an error.
func TestAnything(t *testing.T) {
	numbers := []int{0, 1, 2, 39, 40, 41, top, 1 << 56, -1, math.MaxInt, math.MinInt}
	var all []api.Bottom
	for _, k := range numbers {
		for _, first := range numbers {
			for _, n := range []int{0, 1, 2, 40, 41, 100} {
				all = append(all, sketch(k, rising(n, first)...), sketch(k, slices.Repeat([]int{first}, n)...))
			}
		}
	}
	for _, b := range all {
		for _, n := range numbers {
			got, err := Put(b, n)
			anySketch(t, "Put", got, err)
		}
		if got, err := Many(b); err != api.OK && got != 0 || got < 0 {
			t.Errorf("Many(%v) = %d, %d", b, got, err)
		}
		for i := 0; i < len(all); i += 7 {
			got, err := Join(b, all[i])
			anySketch(t, "Join", got, err)
		}
	}
}

func anySketch(t *testing.T, name string, b api.Bottom, err api.Errno) {
	t.Helper()
	if err != api.OK && !isZero(b) || err == api.OK && Check(b) != api.OK {
		t.Errorf("%s = %v, %d", name, b, err)
	}
}

// overwrite changes all of l, with its spare capacity.
func overwrite(l []int) {
	l = l[:cap(l)]
	for i := range l {
		l[i] = -5
	}
}

// P2: the arguments stay as they are, and so does their spare capacity, even
// if the results are changed.
func TestArgumentsKept(t *testing.T) {
	left, right := []int{3, 5, 7, 77, 78, 79}, []int{2, 5, 8, 87, 88, 89}
	for n := range 4 {
		for m := range 4 {
			a, b := sketch(3, left[:n]...), sketch(3, right[:m]...)
			Check(a)
			Many(a)
			for x := -1; x < 10; x++ {
				got, _ := Put(a, x)
				overwrite(got.Nums)
			}
			got, _ := Join(a, b)
			overwrite(got.Nums)
			got, _ = Join(a, a)
			overwrite(got.Nums)
			Join(a, sketch(4, right[:m]...))
		}
	}
	if !slices.Equal(left, []int{3, 5, 7, 77, 78, 79}) || !slices.Equal(right, []int{2, 5, 8, 87, 88, 89}) {
		t.Errorf("the arguments are now %v, %v", left, right)
	}
}

// P2: results are new each time, do not change with the arguments, and depend
// on the arguments alone.
func TestResultsNew(t *testing.T) {
	for n := range 4 {
		for m := range 4 {
			a, b := sketch(3, rising(n, 3)...), sketch(3, rising(m, 2)...)
			joined, _ := Join(a, b)
			again, _ := Join(a, b)
			put, _ := Put(a, 4)
			putAgain, _ := Put(a, 4)
			wantJoined := smallest(3, append(rising(n, 3), rising(m, 2)...))
			wantPut := smallest(3, append(rising(n, 3), 4))
			overwrite(a.Nums)
			overwrite(b.Nums)
			overwrite(joined.Nums)
			overwrite(put.Nums)
			if !equal(again, wantJoined) || !equal(putAgain, wantPut) {
				t.Errorf("after a change of others: Join %v, Put %v, want %v, %v", again, putAgain, wantJoined, wantPut)
			}
		}
	}
}
