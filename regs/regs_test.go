package regs

import (
	"math"
	"math/big"
	"slices"
	"testing"

	"cullender/api"
)

const top = 1<<56 - 1 // the greatest random value

// sizes has the numbers of registers that there may be.
var sizes = []int{1, 2, 4, 8, 16}

// filled returns n registers that are x.
func filled(n, x int) []int {
	return slices.Repeat([]int{x}, n)
}

// with returns the registers with x at an index.
func with(l []int, at, x int) []int {
	l = slices.Clone(l)
	l[at] = x
	return l
}

// eachList calls f with each list of n of the numbers.
func eachList(n int, numbers []int, f func([]int)) {
	l := make([]int, n)
	var fill func(int)
	fill = func(i int) {
		if i == n {
			f(l)
			return
		}
		for _, x := range numbers {
			l[i] = x
			fill(i + 1)
		}
	}
	fill(0)
}

func checkList(t *testing.T, name string, got []int, err api.Errno, want []int, wantErr api.Errno) {
	t.Helper()
	if !slices.Equal(got, want) || err != wantErr {
		t.Errorf("%s = %v, %d, want %v, %d", name, got, err, want, wantErr)
	}
}

// valid has registers without an error.
var valid = []struct {
	name string
	l    []int
}{
	{"one", []int{0}},
	{"one, the greatest", []int{57}},
	{"two", []int{0, 57}},
	{"four", []int{1, 0, 56, 57}},
	{"eight", filled(8, 5)},
	{"16, the least", filled(16, 0)},
	{"16, the greatest", filled(16, 57)},
	{"two, with spare capacity", make([]int, 2, 3)},
}

// invalid has registers with the error of Check, which all functions return.
var invalid = []struct {
	name string
	l    []int
	want api.Errno
}{
	{"none", nil, api.ErrLen},
	{"an empty list", []int{}, api.ErrLen},
	{"one in the spare capacity only", make([]int, 0, 1), api.ErrLen},
	{"three", []int{1, 2, 3}, api.ErrLen},
	{"three, one too great", []int{58, 2, 3}, api.ErrLen},
	{"three, one below 0", []int{1, 2, -1}, api.ErrLen},
	{"15", filled(15, 0), api.ErrLen},
	{"17", filled(17, 0), api.ErrLen},
	{"32", filled(32, 0), api.ErrLen},
	{"64, all invalid", filled(64, -1), api.ErrLen},
	{"-1", []int{-1}, api.ErrArg},
	{"58", []int{58}, api.ErrArg},
	{"the least integer", []int{math.MinInt}, api.ErrArg},
	{"the greatest integer", []int{math.MaxInt}, api.ErrArg},
	{"-1 at the end", []int{0, -1}, api.ErrArg},
	{"58 inside", []int{0, 58, 0, 0}, api.ErrArg},
	{"the last of 16", with(filled(16, 0), 15, 58), api.ErrArg},
}

// P59: valid registers.
func TestCheckValid(t *testing.T) {
	for _, c := range valid {
		if err := Check(c.l); err != api.OK {
			t.Errorf("%s: Check(%v) = %d, want OK", c.name, c.l, err)
		}
	}
}

// P59: invalid registers, and of several errors the first.
func TestCheckInvalid(t *testing.T) {
	for _, c := range invalid {
		if err := Check(c.l); err != c.want {
			t.Errorf("%s: Check(%v) = %d, want %d", c.name, c.l, err, c.want)
		}
	}
}

// P59: all numbers of registers, and each of them as the one with an error.
func TestCheckEach(t *testing.T) {
	for n := range 70 {
		for at := range n {
			for x := -2; x <= 60; x++ {
				want := api.OK
				switch {
				case !slices.Contains(sizes, n):
					want = api.ErrLen
				case x < 0 || x > 57:
					want = api.ErrArg
				}
				if err := Check(with(filled(n, 3), at, x)); err != want {
					t.Errorf("Check of %d registers, with %d at %d = %d, want %d", n, x, at, err, want)
				}
			}
		}
	}
}

// P59: all other functions return the error of Check, for a and then for b.
func TestOthersCheck(t *testing.T) {
	for _, c := range invalid {
		for _, n := range []int{0, top, -1, 1 << 56} {
			got, err := Put(c.l, n)
			checkList(t, c.name+": Put", got, err, nil, c.want)
		}
		for _, other := range valid {
			checkPairFails(t, c.name+" and "+other.name, c.l, other.l, c.want)
			checkPairFails(t, other.name+" and "+c.name, other.l, c.l, c.want)
		}
		for _, other := range invalid {
			checkPairFails(t, c.name+" and "+other.name, c.l, other.l, c.want)
		}
	}
}

func checkPairFails(t *testing.T, name string, a, b []int, want api.Errno) {
	t.Helper()
	got, err := Join(a, b)
	checkList(t, name+": Join", got, err, nil, want)
	if is, err := Fit(a, b); is || err != want {
		t.Errorf("%s: Fit(%v, %v) = %t, %d, want false, %d", name, a, b, is, err, want)
	}
}

// P60: given values.
func TestPut(t *testing.T) {
	for _, c := range []struct {
		name string
		l    []int
		n    int
		want []int
	}{
		{"0 into one", []int{0}, 0, []int{57}},
		{"1 into one", []int{0}, 1, []int{56}},
		{"2 into one", []int{0}, 2, []int{55}},
		{"3 into one", []int{0}, 3, []int{55}},
		{"a half", []int{0}, 1 << 55, []int{1}},
		{"less than a half", []int{0}, 1<<55 - 1, []int{2}},
		{"less than a quarter", []int{0}, 1<<54 - 1, []int{3}},
		{"the greatest", []int{0}, top, []int{1}},
		{"0 into two", []int{0, 0}, 0, []int{57, 0}},
		{"1 into two", []int{0, 0}, 1, []int{0, 57}},
		{"2 into two", []int{0, 0}, 2, []int{56, 0}},
		{"a half into two", []int{0, 0}, 1 << 55, []int{2, 0}},
		{"a half and 1 into two", []int{0, 0}, 1<<55 + 1, []int{0, 2}},
		{"the greatest into two", []int{0, 0}, top, []int{0, 2}},
		{"7 into four", filled(4, 0), 7, []int{0, 0, 0, 56}},
		{"the greatest into four", filled(4, 0), top, []int{0, 0, 0, 3}},
		{"the greatest into eight", filled(8, 0), top, with(filled(8, 0), 7, 4)},
		{"15 into 16", filled(16, 0), 15, with(filled(16, 0), 15, 57)},
		{"16 into 16", filled(16, 0), 16, with(filled(16, 0), 0, 56)},
		{"the greatest into 16", filled(16, 0), top, with(filled(16, 0), 15, 5)},
		{"a half into 16", filled(16, 0), 1 << 55, with(filled(16, 0), 0, 5)},
		{"greater than before", []int{54}, 2, []int{55}},
		{"as great as before", []int{55}, 2, []int{55}},
		{"less than before", []int{56}, 2, []int{56}},
		{"the greatest stays", []int{57}, top, []int{57}},
		{"the others stay", []int{9, 8, 7, 6}, 1<<55 + 2, []int{9, 8, 7, 6}},
		{"of the others all are less", []int{1, 1, 1, 1}, 1<<55 + 2, []int{1, 1, 3, 1}},
	} {
		got, err := Put(c.l, c.n)
		checkList(t, c.name+": Put", got, err, c.want, api.OK)
	}
}

// P60: a value out of range, also where the registers would stay as they are.
func TestPutInvalid(t *testing.T) {
	for _, c := range valid {
		for _, n := range []int{-1, -2, 1 << 56, 1<<56 + 1, math.MaxInt, math.MinInt} {
			got, err := Put(c.l, n)
			checkList(t, c.name+": Put", got, err, nil, api.ErrArg)
		}
	}
}

// P60: all sizes, values of all lengths and registers before, against the
// quotient and the remainder of integers of any size.
func TestPutSizes(t *testing.T) {
	x := uint64(1)
	for _, size := range sizes {
		for i := range 3000 {
			x = x*6364136223846793005 + 1442695040888963407
			n, before := int(x>>8)>>(i%57), i%58
			rest, at := new(big.Int).QuoRem(big.NewInt(int64(n)), big.NewInt(int64(size)), new(big.Int))
			want := filled(size, before)
			// The length in bits, by its digits; 0 has one digit, but no bit.
			length := len(rest.Text(2))
			if rest.Sign() == 0 {
				length = 0
			}
			want[at.Int64()] = max(before, 57-length)
			got, err := Put(filled(size, before), n)
			checkList(t, "Put", got, err, want, api.OK)
		}
	}
}

// P60: one more zero bit at the beginning gives a register that is one greater,
// of all sizes, of all registers, and whatever follows the first bit.
func TestPutZeros(t *testing.T) {
	for shift, size := range sizes {
		length := 56 - shift // of the value without the bits of the index
		for at := range size {
			for zeros := range length + 1 {
				greatest := 1<<(length-zeros) - 1
				for _, rest := range []int{greatest, greatest - greatest/2} {
					want := with(filled(size, 0), at, 1+shift+zeros)
					got, err := Put(filled(size, 0), rest<<shift+at)
					checkList(t, "Put", got, err, want, api.OK)
				}
			}
		}
	}
}

// putAll returns the registers after all values of l were added.
func putAll(t *testing.T, size int, l []int) []int {
	t.Helper()
	regs := make([]int, size)
	for _, n := range l {
		next, err := Put(regs, n)
		if err != api.OK || Check(next) != api.OK {
			t.Fatalf("Put(%v, %d) = %v, %d", regs, n, next, err)
		}
		regs = next
	}
	return regs
}

// P61: given registers.
func TestJoin(t *testing.T) {
	for _, c := range []struct {
		name       string
		a, b, want []int
	}{
		{"one", []int{3}, []int{5}, []int{5}},
		{"one, equal", []int{5}, []int{5}, []int{5}},
		{"the least and the greatest", []int{0, 57}, []int{57, 0}, []int{57, 57}},
		{"some of both", []int{1, 5}, []int{3, 2}, []int{3, 5}},
		{"all of one", []int{1, 2, 3, 4}, []int{2, 3, 4, 5}, []int{2, 3, 4, 5}},
		{"with empty ones", filled(8, 0), filled(8, 7), filled(8, 7)},
		{"the last of 16", with(filled(16, 4), 15, 9), with(filled(16, 4), 15, 8), with(filled(16, 4), 15, 9)},
		{"the first and the last of 16", with(filled(16, 4), 15, 9), with(filled(16, 4), 0, 8), with(with(filled(16, 4), 15, 9), 0, 8)},
	} {
		got, err := Join(c.a, c.b)
		checkList(t, c.name+": Join", got, err, c.want, api.OK)
		got, err = Join(c.b, c.a)
		checkList(t, c.name+": Join, the other way", got, err, c.want, api.OK)
	}
}

// P61, P62: all pairs of sizes.
func TestPairSizes(t *testing.T) {
	for _, size := range sizes {
		for _, other := range sizes {
			if size != other {
				checkPairFails(t, "different numbers", filled(size, 1), filled(other, 2), api.ErrForm)
				checkPairFails(t, "different numbers, all 0", filled(size, 0), filled(other, 0), api.ErrForm)
				continue
			}
			got, err := Join(filled(size, 1), filled(size, 2))
			checkList(t, "Join", got, err, filled(size, 2), api.OK)
		}
	}
}

// P60, P61: joined registers equal those of all values, in any order and with
// any repetition.
func TestJoinAll(t *testing.T) {
	values := []int{0, 1, 6, 1 << 20, 1<<55 + 1, top}
	for _, size := range sizes {
		eachList(5, values, func(l []int) {
			want := putAll(t, size, slices.Compact(slices.Sorted(slices.Values(l))))
			if got := putAll(t, size, l); !slices.Equal(got, want) {
				t.Fatalf("Put of all of %v: %v, want %v", l, got, want)
			}
			for cut := range len(l) + 1 {
				a, b := putAll(t, size, l[:cut]), putAll(t, size, l[cut:])
				for _, pair := range [][2][]int{{a, b}, {b, a}, {a, want}, {want, b}, {want, want}} {
					got, err := Join(pair[0], pair[1])
					checkList(t, "Join", got, err, want, api.OK)
				}
			}
		})
	}
}

// P62: given registers.
func TestFit(t *testing.T) {
	for _, c := range []struct {
		name string
		a, b []int
		want bool
	}{
		{"less", []int{3}, []int{5}, true},
		{"equal", []int{5}, []int{5}, true},
		{"greater", []int{6}, []int{5}, false},
		{"all 0", []int{0, 0}, []int{0, 0}, true},
		{"all the greatest", []int{57, 57}, []int{57, 57}, true},
		{"the first greater", []int{2, 1}, []int{1, 5}, false},
		{"the last greater", []int{1, 5}, []int{3, 2}, false},
		{"less and equal", []int{1, 2, 3, 4}, []int{1, 3, 3, 5}, true},
		{"one of 16 greater", with(filled(16, 4), 15, 5), filled(16, 4), false},
		{"one of 16 less", with(filled(16, 4), 15, 3), filled(16, 4), true},
		{"one of 16 greater, the others less", with(filled(16, 0), 7, 5), filled(16, 4), false},
	} {
		if got, err := Fit(c.a, c.b); got != c.want || err != api.OK {
			t.Errorf("%s: Fit(%v, %v) = %t, %d, want %t, OK", c.name, c.a, c.b, got, err, c.want)
		}
	}
}

// P61, P62: a fits b if b stays as it is when a is joined to it, and not else.
func TestFitAll(t *testing.T) {
	for _, size := range []int{1, 2, 4} {
		var all [][]int
		eachList(size, []int{0, 1, 57}, func(l []int) { all = append(all, slices.Clone(l)) })
		for _, a := range all {
			for _, b := range all {
				joined, err := Join(a, b)
				if err != api.OK {
					t.Fatalf("Join(%v, %v) = %d", a, b, err)
				}
				if got, err := Fit(a, b); got != slices.Equal(joined, b) || err != api.OK {
					t.Fatalf("Fit(%v, %v) = %t, %d, but joined they are %v", a, b, got, err, joined)
				}
				if got, err := Fit(a, joined); !got || err != api.OK {
					t.Fatalf("Fit(%v, %v) = %t, %d, want true, OK", a, joined, got, err)
				}
			}
		}
	}
}

// P1: no function panics, whatever its arguments, and no result comes with an error.
func TestAnything(t *testing.T) {
	numbers := []int{0, 1, 5, 57, 58, top, 1 << 56, -1, math.MaxInt, math.MinInt}
	var all [][]int
	for _, size := range []int{0, 1, 2, 3, 4, 5, 7, 8, 9, 16, 17, 32, 1000} {
		for _, x := range numbers {
			all = append(all, filled(size, x))
			if size > 0 {
				all = append(all, with(filled(size, x), size-1, 3))
			}
		}
	}
	for _, a := range all {
		for _, n := range numbers {
			got, err := Put(a, n)
			anyRegs(t, "Put", got, err)
		}
		for _, b := range all {
			got, err := Join(a, b)
			anyRegs(t, "Join", got, err)
			is, fitErr := Fit(a, b)
			if is && fitErr != api.OK || fitErr != err {
				t.Errorf("Fit(%v, %v) = %t, %d, and Join %d", a, b, is, fitErr, err)
			}
		}
	}
}

func anyRegs(t *testing.T, name string, l []int, err api.Errno) {
	t.Helper()
	if err != api.OK && len(l) != 0 || err == api.OK && Check(l) != api.OK {
		t.Errorf("%s = %v, %d", name, l, err)
	}
}

// overwrite changes all of l, with its spare capacity.
func overwrite(l []int) {
	l = l[:cap(l)]
	for i := range l {
		l[i] = -5
	}
}

// P2: the arguments stay as they are, and so does their spare capacity, even
// if the results are changed.
func TestArgumentsKept(t *testing.T) {
	long, other := filled(20, 3), filled(20, 4)
	for _, size := range sizes {
		a, b := long[:size], other[:size]
		Check(a)
		for _, n := range []int{0, 1, 7, top, -1} {
			got, _ := Put(a, n)
			overwrite(got)
		}
		for _, pair := range [][2][]int{{a, b}, {b, a}, {a, a}, {a, other[:3]}} {
			got, _ := Join(pair[0], pair[1])
			overwrite(got)
			Fit(pair[0], pair[1])
		}
	}
	if !slices.Equal(long, filled(20, 3)) || !slices.Equal(other, filled(20, 4)) {
		t.Errorf("the arguments are now %v, %v", long, other)
	}
}

// P2: results are new each time, do not change with the arguments, and depend
// on the arguments alone.
func TestResultsNew(t *testing.T) {
	for _, size := range sizes {
		a, b := filled(size, 1), filled(size, 2)
		put, _ := Put(a, 0)
		putAgain, _ := Put(a, 0)
		same, _ := Put(putAgain, top)
		joined, _ := Join(a, b)
		joinedAgain, _ := Join(a, b)
		for _, l := range [][]int{a, b, put, joined} {
			overwrite(l)
		}
		want := with(filled(size, 1), 0, 57)
		if !slices.Equal(putAgain, want) || !slices.Equal(joinedAgain, filled(size, 2)) {
			t.Errorf("after a change of others: Put %v, Join %v", putAgain, joinedAgain)
		}
		overwrite(putAgain)
		if len(same) != size || same[0] != 57 {
			t.Errorf("after a change of the argument: Put %v", same)
		}
	}
}
