package bloom

import (
	"math"
	"math/big"
	"slices"
	"testing"

	"cullender/api"
	"cullender/mix"
)

// filter returns a filter of the size with these bits set.
func filter(size, ways int, set ...int) api.Filter {
	f := api.Filter{Size: size, Ways: ways, Bits: make([]bool, size)}
	for _, at := range set {
		f.Bits[at] = true
	}
	return f
}

// full returns a filter of the size with all bits set.
func full(size, ways int) api.Filter {
	return api.Filter{Size: size, Ways: ways, Bits: slices.Repeat([]bool{true}, size)}
}

func equal(f, g api.Filter) bool {
	return f.Size == g.Size && f.Ways == g.Ways && slices.Equal(f.Bits, g.Bits)
}

// isZero reports whether f is what comes with an error.
func isZero(f api.Filter) bool {
	return f.Size == 0 && f.Ways == 0 && len(f.Bits) == 0
}

// setBits returns the indices of the bits of f that are set.
func setBits(f api.Filter) []int {
	var l []int
	for i, isSet := range f.Bits {
		if isSet {
			l = append(l, i)
		}
	}
	return l
}

// valid has filters without an error.
var valid = []struct {
	name string
	f    api.Filter
}{
	{"the least", filter(1, 1)},
	{"the least, full", full(1, 1)},
	{"one bit, 8 ways", filter(1, 8)},
	{"256 bits, 1 way", filter(256, 1)},
	{"the greatest", filter(256, 8)},
	{"the greatest, full", full(256, 8)},
	{"more ways than bits", filter(3, 5, 1)},
	{"64 bits", filter(64, 3, 0, 63)},
}

// invalid has filters with the error of Check, which all functions return.
var invalid = []struct {
	name string
	f    api.Filter
	want api.Errno
}{
	{"nothing set", api.Filter{}, api.ErrArg},
	{"size 0", filter(0, 1), api.ErrArg},
	{"size 0 and a bit", api.Filter{Ways: 1, Bits: make([]bool, 1)}, api.ErrArg},
	{"size -1", api.Filter{Size: -1, Ways: 1}, api.ErrArg},
	{"size 257", filter(257, 1), api.ErrArg},
	{"size 257, without bits", api.Filter{Size: 257, Ways: 1}, api.ErrArg},
	{"the greatest size", api.Filter{Size: math.MaxInt, Ways: 1, Bits: make([]bool, 5)}, api.ErrArg},
	{"the least size", api.Filter{Size: math.MinInt, Ways: 1, Bits: make([]bool, 5)}, api.ErrArg},
	{"no ways", filter(8, 0), api.ErrArg},
	{"-1 ways", filter(8, -1), api.ErrArg},
	{"9 ways", filter(8, 9), api.ErrArg},
	{"9 ways, without bits", api.Filter{Size: 8, Ways: 9}, api.ErrArg},
	{"the most ways", filter(8, math.MaxInt), api.ErrArg},
	{"the least ways", filter(8, math.MinInt), api.ErrArg},
	{"no ways and a bit too few", api.Filter{Size: 8, Bits: make([]bool, 7)}, api.ErrArg},
	{"no bits", api.Filter{Size: 2, Ways: 1}, api.ErrLen},
	{"an empty list of bits", api.Filter{Size: 1, Ways: 1, Bits: []bool{}}, api.ErrLen},
	{"a bit too few", api.Filter{Size: 8, Ways: 8, Bits: make([]bool, 7)}, api.ErrLen},
	{"a bit too many", api.Filter{Size: 8, Ways: 8, Bits: make([]bool, 9)}, api.ErrLen},
	{"255 of 256", api.Filter{Size: 256, Ways: 8, Bits: make([]bool, 255)}, api.ErrLen},
	{"257 of 256", api.Filter{Size: 256, Ways: 8, Bits: make([]bool, 257)}, api.ErrLen},
	{"a bit too few, but for the spare capacity", api.Filter{Size: 8, Ways: 8, Bits: make([]bool, 7, 8)}, api.ErrLen},
}

// keys has numbers of all kinds, among them ones that are greater than all
// random values, and negative ones.
var keys = []int{0, 1, 2, 3, 255, 1 << 56, 1 << 62, -1, -2, math.MaxInt, math.MinInt, 123456789, 7046029254386353131}

// P46: valid filters.
func TestCheckValid(t *testing.T) {
	for _, c := range valid {
		if err := Check(c.f); err != api.OK {
			t.Errorf("%s: Check(%v) = %d, want OK", c.name, c.f, err)
		}
	}
}

// P46: invalid filters, and of several errors the first.
func TestCheckInvalid(t *testing.T) {
	for _, c := range invalid {
		if err := Check(c.f); err != c.want {
			t.Errorf("%s: Check(%v) = %d, want %d", c.name, c.f, err, c.want)
		}
	}
}

// P46: all sizes with all ways and about as many bits.
func TestCheckSizes(t *testing.T) {
	bits := make([]bool, 260)
	for size := -2; size <= 259; size++ {
		for ways := -2; ways <= 11; ways++ {
			for n := max(size-1, 0); n <= max(size+1, 1); n++ {
				want := api.OK
				switch {
				case size < 1 || size > 256 || ways < 1 || ways > 8:
					want = api.ErrArg
				case n != size:
					want = api.ErrLen
				}
				if err := Check(api.Filter{Size: size, Ways: ways, Bits: bits[:n]}); err != want {
					t.Errorf("Check of size %d, %d ways and %d bits = %d, want %d", size, ways, n, err, want)
				}
			}
		}
	}
}

// P46: all other functions return the error of Check, for f and then for g.
func TestOthersCheck(t *testing.T) {
	for _, c := range invalid {
		for _, key := range keys {
			if got, err := Put(c.f, key); !isZero(got) || err != c.want {
				t.Errorf("%s: Put(%v, %d) = %v, %d, want none, %d", c.name, c.f, key, got, err, c.want)
			}
			if got, err := Has(c.f, key); got || err != c.want {
				t.Errorf("%s: Has(%v, %d) = %v, %d, want false, %d", c.name, c.f, key, got, err, c.want)
			}
		}
		for _, other := range valid {
			if got, err := Join(c.f, other.f); !isZero(got) || err != c.want {
				t.Errorf("%s: Join(%v, %v) = %v, %d, want none, %d", c.name, c.f, other.f, got, err, c.want)
			}
			if got, err := Join(other.f, c.f); !isZero(got) || err != c.want {
				t.Errorf("%s: Join(%v, %v) = %v, %d, want none, %d", c.name, other.f, c.f, got, err, c.want)
			}
		}
		for _, other := range invalid {
			if got, err := Join(c.f, other.f); !isZero(got) || err != c.want {
				t.Errorf("%s and %s: Join(%v, %v) = %v, %d, want none, %d", c.name, other.name, c.f, other.f, got, err, c.want)
			}
		}
	}
}

// placed has the positions of given keys. They were computed apart from this
// program, with integers of any size.
var placed = []struct {
	key, size, ways int
	want            []int
}{
	{0, 64, 3, []int{47, 52, 15}},
	{1, 64, 3, []int{1, 39, 30}},
	{2, 64, 3, []int{14, 2, 47}},
	{-1, 64, 3, []int{32, 9, 41}},
	{0, 256, 8, []int{175, 244, 79, 236, 155, 234, 225, 60}},
	{0, 256, 1, []int{175}},
	{5, 256, 8, []int{90, 248, 71, 69, 197, 68, 33, 43}},
	{math.MaxInt, 256, 8, []int{167, 71, 144, 251, 203, 19, 39, 214}},
	{math.MinInt, 256, 8, []int{219, 18, 64, 249, 211, 255, 99, 189}},
	{7046029254386353131, 256, 2, []int{0, 175}}, // its next state is 0
	{123456789, 97, 8, []int{51, 22, 36, 80, 32, 43, 22, 50}},
	{-2, 97, 8, []int{19, 58, 3, 57, 82, 4, 21, 60}}, // the first number has 64 bits
	{77, 255, 5, []int{117, 195, 126, 245, 252}},
	{0, 10, 4, []int{5, 0, 9, 4}},
	{3, 7, 8, []int{2, 3, 6, 0, 3, 1, 1, 0}},
	{0, 1, 8, []int{0, 0, 0, 0, 0, 0, 0, 0}},
}

// P47: Put into an empty filter sets the bits at the positions, and no others.
func TestPut(t *testing.T) {
	for _, c := range placed {
		f := filter(c.size, c.ways)
		want := filter(c.size, c.ways, c.want...)
		if got, err := Put(f, c.key); !equal(got, want) || err != api.OK {
			t.Errorf("Put of %d, size %d, %d ways: bits %v, %d, want %v, OK", c.key, c.size, c.ways, setBits(got), err, setBits(want))
		}
	}
}

// P47: bits that were set stay so, and a key that is put again changes nothing.
func TestPutMore(t *testing.T) {
	for _, c := range placed {
		for _, before := range []api.Filter{filter(c.size, c.ways, 0), filter(c.size, c.ways, c.size-1, c.size/2), full(c.size, c.ways)} {
			want := filter(c.size, c.ways, append(setBits(before), c.want...)...)
			got, err := Put(before, c.key)
			if !equal(got, want) || err != api.OK {
				t.Errorf("Put(%v, %d): bits %v, %d, want %v, OK", before, c.key, setBits(got), err, setBits(want))
			}
			if again, err := Put(got, c.key); !equal(again, want) || err != api.OK {
				t.Errorf("Put of %d, again: bits %v, %d, want %v, OK", c.key, setBits(again), err, setBits(want))
			}
		}
	}
}

// places returns the positions of a key without the generator: number i of it
// is Mix of the key and i + 1 steps.
func places(key, size, ways int) []int {
	var l []int
	for i := range ways {
		number := mix.Mix(uint64(key) + uint64(i+1)*11400714819323198485)
		rest := new(big.Int).SetUint64(number)
		rest.Mod(rest, big.NewInt(int64(size)))
		l = append(l, int(rest.Int64()))
	}
	return l
}

// P47, P48: all sizes and ways, with a bit unset or set in all ways that matter.
func TestSizes(t *testing.T) {
	for size := 1; size <= 256; size++ {
		for ways := 1; ways <= 8; ways++ {
			key := keys[(size+ways)%len(keys)] + size
			at := places(key, size, ways)
			want := filter(size, ways, at...)
			if got, err := Put(filter(size, ways), key); !equal(got, want) || err != api.OK {
				t.Fatalf("Put of %d, size %d, %d ways: bits %v, %d, want %v, OK", key, size, ways, setBits(got), err, setBits(want))
			}
			checkHas(t, want, key, true)
			checkHas(t, full(size, ways), key, true)
			checkHas(t, filter(size, ways), key, false)
			for _, unset := range at {
				f := full(size, ways)
				f.Bits[unset] = false
				checkHas(t, f, key, false)
				only := filter(size, ways, at...)
				only.Bits[unset] = false
				checkHas(t, only, key, false)
			}
		}
	}
}

func checkHas(t *testing.T, f api.Filter, key int, want bool) {
	t.Helper()
	if got, err := Has(f, key); got != want || err != api.OK {
		t.Fatalf("Has(%v, %d) = %v, %d, want %v, OK", f, key, got, err, want)
	}
}

// P48: given filters, with the positions known.
func TestHas(t *testing.T) {
	for _, c := range []struct {
		name string
		f    api.Filter
		key  int
		want bool
	}{
		{"empty", filter(64, 3), 0, false},
		{"full", full(64, 3), 0, true},
		{"just its bits", filter(64, 3, 47, 52, 15), 0, true},
		{"its bits and others", filter(64, 3, 0, 15, 46, 47, 52, 63), 0, true},
		{"without the first", filter(64, 3, 52, 15), 0, false},
		{"without the second", filter(64, 3, 47, 15), 0, false},
		{"without the last", filter(64, 3, 47, 52), 0, false},
		{"only the first", filter(64, 3, 47), 0, false},
		{"the bits of another key", filter(64, 3, 47, 52, 15), 1, false},
		{"found, but never added", filter(64, 3, 14, 2, 47, 1, 39), 2, true},
		{"fewer ways look at fewer bits", filter(64, 2, 47, 52), 0, true},
		{"one bit, unset", filter(1, 8), 5, false},
		{"one bit, set", full(1, 8), 5, true},
		{"positions that are equal", filter(7, 8, 0, 1, 2, 3, 6), 3, true},
		{"positions that are equal, without one", filter(7, 8, 0, 1, 2, 6, 4, 5), 3, false},
		{"a negative key", filter(64, 3, 32, 9, 41), -1, true},
		{"a negative key, without the last", filter(64, 3, 32, 9), -1, false},
	} {
		if got, err := Has(c.f, c.key); got != c.want || err != api.OK {
			t.Errorf("%s: Has(bits %v, %d) = %v, %d, want %v, OK", c.name, setBits(c.f), c.key, got, err, c.want)
		}
	}
}

// putAll returns the filter after all keys were added.
func putAll(t *testing.T, f api.Filter, keys []int) api.Filter {
	t.Helper()
	for _, key := range keys {
		next, err := Put(f, key)
		if err != api.OK || Check(next) != api.OK {
			t.Fatalf("Put(%v, %d) = %v, %d", f, key, next, err)
		}
		f = next
	}
	return f
}

// P48: keys that were added are found, whatever comes after them.
func TestHasAll(t *testing.T) {
	for _, size := range []int{1, 2, 7, 64, 100, 256} {
		for ways := 1; ways <= 8; ways++ {
			f := filter(size, ways)
			for i := range 60 {
				f = putAll(t, f, []int{i * 7919})
				for j := range i + 1 {
					checkHas(t, f, j*7919, true)
				}
			}
		}
	}
}

// P49: given filters.
func TestJoin(t *testing.T) {
	for _, c := range []struct {
		name       string
		f, g, want api.Filter
	}{
		{"both empty", filter(8, 2), filter(8, 2), filter(8, 2)},
		{"the first empty", filter(8, 2), filter(8, 2, 0, 7), filter(8, 2, 0, 7)},
		{"the second empty", filter(8, 2, 0, 7), filter(8, 2), filter(8, 2, 0, 7)},
		{"equal filters", filter(8, 2, 0, 7), filter(8, 2, 0, 7), filter(8, 2, 0, 7)},
		{"different bits", filter(8, 2, 0, 3), filter(8, 2, 5, 7), filter(8, 2, 0, 3, 5, 7)},
		{"some bits of both", filter(8, 2, 0, 3), filter(8, 2, 3, 7), filter(8, 2, 0, 3, 7)},
		{"a full one", full(8, 2), filter(8, 2, 3), full(8, 2)},
		{"one bit", filter(1, 8), full(1, 8), full(1, 8)},
		{"the greatest", filter(256, 8, 0), filter(256, 8, 255), filter(256, 8, 0, 255)},
	} {
		if got, err := Join(c.f, c.g); !equal(got, c.want) || err != api.OK {
			t.Errorf("%s: Join of bits %v and %v = %v, %d, want %v, OK", c.name, setBits(c.f), setBits(c.g), got, err, c.want)
		}
	}
}

// P49: filters of different sizes or ways, also empty ones.
func TestJoinSizes(t *testing.T) {
	for _, size := range []int{1, 2, 3, 64, 255, 256} {
		for _, other := range []int{1, 2, 3, 64, 255, 256} {
			for ways := 1; ways <= 8; ways++ {
				for otherWays := 1; otherWays <= 8; otherWays++ {
					want := api.OK
					if size != other || ways != otherWays {
						want = api.ErrLen
					}
					got, err := Join(filter(size, ways, 0), filter(other, otherWays, 0))
					if err != want || err != api.OK && !isZero(got) || err == api.OK && !equal(got, filter(size, ways, 0)) {
						t.Errorf("Join of sizes %d and %d, ways %d and %d = %v, %d, want %d", size, other, ways, otherWays, got, err, want)
					}
				}
			}
		}
	}
}

// P49: all pairs of filters of 4 bits.
func TestJoinPairs(t *testing.T) {
	bits := func(set int) api.Filter {
		f := filter(4, 2)
		for i := range f.Bits {
			f.Bits[i] = set>>i&1 == 1
		}
		return f
	}
	for a := range 1 << 4 {
		for b := range 1 << 4 {
			if got, err := Join(bits(a), bits(b)); !equal(got, bits(a|b)) || err != api.OK {
				t.Errorf("Join of %b and %b = %v, %d, want %b, OK", a, b, got, err, a|b)
			}
		}
	}
}

// P47, P49: joined filters equal one filter of all keys, in any order and with
// any repetition.
func TestJoinAll(t *testing.T) {
	for _, empty := range []api.Filter{filter(1, 1), filter(8, 2), filter(64, 3), filter(251, 8)} {
		for cut := range len(keys) + 1 {
			for again := range 3 {
				a := putAll(t, empty, keys[:min(cut+again, len(keys))])
				b := putAll(t, empty, keys[cut:])
				back := slices.Clone(keys)
				slices.Reverse(back)
				want := putAll(t, empty, append(back, keys...))
				for _, pair := range [][2]api.Filter{{a, b}, {b, a}, {a, want}, {want, b}} {
					got, err := Join(pair[0], pair[1])
					if !equal(got, want) || err != api.OK {
						t.Fatalf("Join of bits %v and %v = %v, %d, want %v, OK", setBits(pair[0]), setBits(pair[1]), got, err, want)
					}
					for _, key := range keys {
						checkHas(t, got, key, true)
					}
				}
			}
		}
	}
}

// P1: no function panics, whatever its arguments, and no result comes with an error.
func TestAnything(t *testing.T) {
	numbers := []int{0, 1, 2, 8, 9, 255, 256, 257, -1, math.MaxInt, math.MinInt}
	var all []api.Filter
	for _, size := range numbers {
		for _, ways := range numbers {
			for _, n := range []int{0, 1, 2, 256, 300} {
				all = append(all, api.Filter{Size: size, Ways: ways, Bits: make([]bool, n)})
			}
		}
	}
	for _, f := range all {
		for _, key := range keys {
			got, err := Put(f, key)
			anyFilter(t, "Put", got, err)
			if has, err := Has(f, key); has {
				t.Errorf("Has(%v, %d) = true, %d", f, key, err)
			}
		}
		for _, g := range all {
			got, err := Join(f, g)
			anyFilter(t, "Join", got, err)
		}
	}
}

func anyFilter(t *testing.T, name string, f api.Filter, err api.Errno) {
	t.Helper()
	if err != api.OK && !isZero(f) || err == api.OK && Check(f) != api.OK {
		t.Errorf("%s = %v, %d", name, f, err)
	}
}

// flip changes all of l, with its spare capacity.
func flip(l []bool) {
	l = l[:cap(l)]
	for i := range l {
		l[i] = !l[i]
	}
}

// P2: the arguments stay as they are, and so does their spare capacity, even
// if the results are changed.
func TestArgumentsKept(t *testing.T) {
	left, right := filter(70, 3, 1, 66), filter(70, 3, 2, 67)
	f := api.Filter{Size: 64, Ways: 3, Bits: left.Bits[:64]}
	g := api.Filter{Size: 64, Ways: 3, Bits: right.Bits[:64]}
	for _, key := range keys {
		Check(f)
		Has(f, key)
		got, _ := Put(f, key)
		flip(got.Bits)
	}
	got, _ := Join(f, g)
	flip(got.Bits)
	got, _ = Join(f, f)
	flip(got.Bits)
	got, _ = Join(f, api.Filter{Size: 64, Ways: 3, Bits: make([]bool, 64)})
	flip(got.Bits)
	Join(f, filter(64, 4))
	if !equal(left, filter(70, 3, 1, 66)) || !equal(right, filter(70, 3, 2, 67)) {
		t.Errorf("the arguments are now %v, %v", setBits(left), setBits(right))
	}
}

// P2: results are new each time, do not change with the arguments, and depend
// on the arguments alone.
func TestResultsNew(t *testing.T) {
	for range 3 {
		f, g := filter(64, 3, 47), filter(64, 3, 52)
		// The key 0 has the positions 47, 52 and 15.
		put, _ := Put(f, 0)
		putAgain, _ := Put(f, 0)
		same, _ := Put(putAgain, 0)
		joined, _ := Join(f, g)
		joinedAgain, _ := Join(f, g)
		flip(f.Bits)
		flip(g.Bits)
		flip(put.Bits)
		flip(joined.Bits)
		if !equal(putAgain, filter(64, 3, 47, 52, 15)) || !equal(joinedAgain, filter(64, 3, 47, 52)) {
			t.Errorf("after a change of others: Put %v, Join %v", setBits(putAgain), setBits(joinedAgain))
		}
		flip(putAgain.Bits)
		if !equal(same, filter(64, 3, 47, 52, 15)) {
			t.Errorf("after a change of the argument: Put %v", setBits(same))
		}
	}
}
