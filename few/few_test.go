package few

import (
	"maps"
	"math"
	"slices"
	"testing"

	"cullender/api"
)

// full is the greatest N and the greatest Lost.
const full = 1000000000000

// counters returns counters with these keys and, by turns, their Ns.
func counters(list ...int) []api.Counter {
	var l []api.Counter
	for i := 0; i < len(list); i += 2 {
		l = append(l, api.Counter{Key: list[i], N: list[i+1]})
	}
	return l
}

// of returns a summary with these keys and, by turns, their Ns.
func of(k, lost int, list ...int) api.Few {
	return api.Few{K: k, Lost: lost, Counters: counters(list...)}
}

// filled returns a summary with m counters that are n, of the keys from first on.
func filled(k, lost, m, first, n int) api.Few {
	f := api.Few{K: k, Lost: lost}
	for i := range m {
		f.Counters = append(f.Counters, api.Counter{Key: first + i, N: n})
	}
	return f
}

// with returns the summary with another counter at an index.
func with(f api.Few, at, key, n int) api.Few {
	f.Counters = slices.Clone(f.Counters)
	f.Counters[at] = api.Counter{Key: key, N: n}
	return f
}

func equal(f, g api.Few) bool {
	return f.K == g.K && f.Lost == g.Lost && slices.Equal(f.Counters, g.Counters)
}

// isZero reports whether f is what comes with an error.
func isZero(f api.Few) bool {
	return f.K == 0 && f.Lost == 0 && len(f.Counters) == 0
}

// eachList calls f with each list of n of the numbers.
func eachList(n int, numbers []int, f func([]int)) {
	l := make([]int, n)
	var fill func(int)
	fill = func(i int) {
		if i == n {
			f(l)
			return
		}
		for _, x := range numbers {
			l[i] = x
			fill(i + 1)
		}
	}
	fill(0)
}

func checkFailed(t *testing.T, name string, got api.Few, err, want api.Errno) {
	t.Helper()
	if !isZero(got) || err != want {
		t.Errorf("%s = %v, %d, want none, %d", name, got, err, want)
	}
}

// valid has summaries without an error.
var valid = []struct {
	name string
	f    api.Few
}{
	{"empty, of size 1", of(1, 0)},
	{"empty, with an empty list", api.Few{K: 1, Counters: []api.Counter{}}},
	{"empty, of size 16", of(16, 0)},
	{"empty, the most lost", of(1, full)},
	{"the least counter", of(1, 0, 0, 1)},
	{"the greatest counter", of(1, 0, 0, full)},
	{"the greatest of all", of(1, full, math.MaxInt, full)},
	{"the least key", of(1, 0, math.MinInt, 1)},
	{"the least and the greatest key", of(2, 3, math.MinInt, 1, math.MaxInt, full)},
	{"keys around 0", of(3, 1, -1, 5, 0, 4, 1, 3)},
	{"partly filled", of(3, 0, 5, 2, 6, 2)},
	{"one of 16", of(16, 7, 5, 2)},
	{"15 of 16", filled(16, 0, 15, 0, 1)},
	{"16 of 16", filled(16, full, 16, -8, full)},
}

// invalid has summaries with the error of Check, which Put, Ask and Join return.
var invalid = []struct {
	name string
	f    api.Few
	want api.Errno
}{
	{"nothing set", api.Few{}, api.ErrArg},
	{"size 0 and a counter", of(0, 0, 5, 1), api.ErrArg},
	{"size -1", of(-1, 0), api.ErrArg},
	{"size 17", of(17, 0), api.ErrArg},
	{"size 17, full", filled(17, 0, 17, 0, 1), api.ErrArg},
	{"size 17, overfull", filled(17, 0, 18, 0, 1), api.ErrArg},
	{"the greatest size", of(math.MaxInt, 0), api.ErrArg},
	{"the least size", of(math.MinInt, 0), api.ErrArg},
	{"-1 lost", of(1, -1), api.ErrArg},
	{"too much lost", of(1, full+1), api.ErrArg},
	{"the most lost of all", of(1, math.MaxInt), api.ErrArg},
	{"the least lost of all", of(1, math.MinInt), api.ErrArg},
	{"-1 lost, overfull", of(1, -1, 5, 1, 6, 1), api.ErrArg},
	{"too much lost, falling", of(2, full+1, 6, 1, 5, 1), api.ErrArg},
	{"a counter too many", of(1, 0, 5, 1, 6, 1), api.ErrLarge},
	{"a counter too many, the first invalid", of(1, 0, 5, 0, 6, 1), api.ErrLarge},
	{"a counter too many, falling", of(2, 0, 7, 1, 6, 1, 5, 1), api.ErrLarge},
	{"a counter too many, equal keys", of(2, 0, 7, 1, 7, 1, 7, 1), api.ErrLarge},
	{"17 of 16", filled(16, 0, 17, 0, 1), api.ErrLarge},
	{"1000 of 16", filled(16, 0, 1000, 0, 1), api.ErrLarge},
	{"a counter of 0", of(1, 0, 5, 0), api.ErrArg},
	{"a counter of -1", of(1, 0, 5, -1), api.ErrArg},
	{"a counter too great", of(1, 0, 5, full+1), api.ErrArg},
	{"the greatest integer", of(1, 0, 5, math.MaxInt), api.ErrArg},
	{"the least integer", of(1, 0, 5, math.MinInt), api.ErrArg},
	{"a counter of 0 at the end", of(3, 0, 5, 1, 6, 1, 7, 0), api.ErrArg},
	{"a counter too great at the end", of(3, 0, 5, 1, 6, 1, 7, full+1), api.ErrArg},
	{"a counter of 0, its key falling", of(2, 0, 5, 1, 4, 0), api.ErrArg},
	{"a counter too great, its key equal", of(2, 0, 5, 1, 5, full+1), api.ErrArg},
	{"a counter of 0 before equal keys", of(3, 0, 5, 0, 6, 1, 6, 1), api.ErrArg},
	{"equal keys", of(2, 0, 5, 1, 5, 1), api.ErrForm},
	{"equal keys 0", of(2, 0, 0, 1, 0, 2), api.ErrForm},
	{"falling", of(2, 0, 6, 1, 5, 1), api.ErrForm},
	{"falling below 0", of(2, 0, -5, 1, -6, 1), api.ErrForm},
	{"the greatest key, then the least", of(2, 0, math.MaxInt, 1, math.MinInt, 1), api.ErrForm},
	{"the least key twice", of(2, 0, math.MinInt, 1, math.MinInt, 1), api.ErrForm},
	{"equal at the end", of(4, 0, 5, 1, 6, 1, 7, 1, 7, 1), api.ErrForm},
	{"equal, not side by side", of(4, 0, 5, 1, 6, 1, 5, 1), api.ErrForm},
	{"falling before a counter of 0", of(3, 0, 5, 1, 4, 1, 6, 0), api.ErrForm},
	{"equal before a counter too great", of(3, 0, 5, 1, 5, 1, 6, full+1), api.ErrForm},
	{"the last two of 16", with(filled(16, 0, 16, 0, 1), 15, 14, 1), api.ErrForm},
}

// keys has numbers of all kinds, also negative ones.
var keys = []int{0, 1, 5, 6, 7, -1, full, full + 1, 1 << 56, math.MaxInt, math.MinInt}

// P54: valid summaries.
func TestCheckValid(t *testing.T) {
	for _, c := range valid {
		if err := Check(c.f); err != api.OK {
			t.Errorf("%s: Check(%v) = %d, want OK", c.name, c.f, err)
		}
	}
}

// P54: invalid summaries, and of several errors the first.
func TestCheckInvalid(t *testing.T) {
	for _, c := range invalid {
		if err := Check(c.f); err != c.want {
			t.Errorf("%s: Check(%v) = %d, want %d", c.name, c.f, err, c.want)
		}
	}
}

// P54: all sizes with all lengths.
func TestCheckLengths(t *testing.T) {
	for k := -1; k <= 18; k++ {
		for n := range 20 {
			want := api.OK
			switch {
			case k < 1 || k > 16:
				want = api.ErrArg
			case n > k:
				want = api.ErrLarge
			}
			if err := Check(filled(k, 0, n, 3, 1)); err != want {
				t.Errorf("Check of K %d and %d counters = %d, want %d", k, n, err, want)
			}
		}
	}
}

// P54: each counter may be the one with an error.
func TestCheckEach(t *testing.T) {
	for at := range 16 {
		for _, n := range []int{math.MinInt, -1, 0, 1, full, full + 1, math.MaxInt} {
			for key := range 16 {
				want := api.OK
				switch {
				case n < 1 || n > full:
					want = api.ErrArg
				case key != at:
					want = api.ErrForm
				}
				if err := Check(with(filled(16, 0, 16, 0, 1), at, key, n)); err != want {
					t.Errorf("Check with %d of the key %d at %d = %d, want %d", n, key, at, err, want)
				}
			}
		}
	}
}

// P54: Put, Ask and Join return the error of Check, for f and then for g.
func TestOthersCheck(t *testing.T) {
	for _, c := range invalid {
		for _, key := range keys {
			for _, n := range []int{1, 0, -1, full, full + 1} {
				got, err := Put(c.f, key, n)
				checkFailed(t, c.name+": Put", got, err, c.want)
			}
			if low, high, err := Ask(c.f, key); low != 0 || high != 0 || err != c.want {
				t.Errorf("%s: Ask(%v, %d) = %d, %d, %d, want 0, 0, %d", c.name, c.f, key, low, high, err, c.want)
			}
		}
		for _, other := range valid {
			got, err := Join(c.f, other.f)
			checkFailed(t, c.name+": Join, first", got, err, c.want)
			got, err = Join(other.f, c.f)
			checkFailed(t, c.name+": Join, second", got, err, c.want)
		}
		for _, other := range invalid {
			got, err := Join(c.f, other.f)
			checkFailed(t, c.name+" and "+other.name+": Join", got, err, c.want)
		}
	}
}

// P55: a key with a counter, one for which there is room, and one too many.
func TestPut(t *testing.T) {
	for _, c := range []struct {
		name   string
		f      api.Few
		key, n int
		want   api.Few
	}{
		{"the first", of(1, 0), 5, 1, of(1, 0, 5, 1)},
		{"the first of 16, all of it", of(16, 3), 5, full, of(16, 3, 5, full)},
		{"the least key", of(2, 0, 5, 1), math.MinInt, 2, of(2, 0, math.MinInt, 2, 5, 1)},
		{"the greatest key", of(2, 0, 5, 1), math.MaxInt, 2, of(2, 0, 5, 1, math.MaxInt, 2)},
		{"a key below 0", of(3, 0, -3, 1, 0, 1), -1, 2, of(3, 0, -3, 1, -1, 2, 0, 1)},
		{"at the start", of(3, 0, 5, 1, 7, 1), 4, 2, of(3, 0, 4, 2, 5, 1, 7, 1)},
		{"inside", of(3, 0, 5, 1, 7, 1), 6, 2, of(3, 0, 5, 1, 6, 2, 7, 1)},
		{"at the end", of(3, 0, 5, 1, 7, 1), 8, 2, of(3, 0, 5, 1, 7, 1, 8, 2)},
		{"counted at the start", of(3, 4, 5, 1, 7, 1), 5, 2, of(3, 4, 5, 3, 7, 1)},
		{"counted at the end", of(3, 4, 5, 1, 7, 1), 7, 2, of(3, 4, 5, 1, 7, 3)},
		{"counted, of a full one", of(2, 4, 5, 1, 7, 1), 7, 2, of(2, 4, 5, 1, 7, 3)},
		{"1 from each of two", of(2, 0, 5, 3, 6, 2), 7, 1, of(2, 1, 5, 2, 6, 1)},
		{"1 from each, one is left", of(2, 0, 5, 3, 6, 1), 7, 1, of(2, 1, 5, 2)},
		{"1 from each, none is left", of(2, 0, 5, 1, 6, 1), 7, 1, of(2, 1)},
		{"the key stays instead of the first", of(2, 0, 5, 1, 6, 2), 4, 3, of(2, 1, 4, 2, 6, 1)},
		{"the key stays instead of the last", of(2, 0, 5, 4, 7, 3), 6, 5, of(2, 3, 5, 1, 6, 2)},
		{"the key stays alone", of(2, 0, 5, 3, 7, 3), 6, 5, of(2, 3, 6, 2)},
		{"more was lost before", of(2, 10, 5, 4, 7, 3), 6, 2, of(2, 12, 5, 2, 7, 1)},
		{"size 1, less", of(1, 0, 5, 4), 6, 3, of(1, 3, 5, 1)},
		{"size 1, the same", of(1, 0, 5, 4), 6, 4, of(1, 4)},
		{"size 1, more", of(1, 0, 5, 4), 6, 7, of(1, 4, 6, 3)},
		{"size 16, becomes full", filled(16, 0, 15, 1, 2), 0, 2, filled(16, 0, 16, 0, 2)},
		{"size 16, 1 from each", filled(16, 0, 16, 1, 2), 0, 1, filled(16, 1, 16, 1, 1)},
		{"size 16, none is left", filled(16, 5, 16, 1, 2), 0, 2, of(16, 7)},
		{"size 16, the key stays alone", filled(16, 5, 16, 1, 2), 0, 3, of(16, 7, 0, 1)},
	} {
		if got, err := Put(c.f, c.key, c.n); !equal(got, c.want) || err != api.OK {
			t.Errorf("%s: Put(%v, %d, %d) = %v, %d, want %v, OK", c.name, c.f, c.key, c.n, got, err, c.want)
		}
	}
}

// P55: the number to add is out of range, whatever else would be too great.
func TestPutNumber(t *testing.T) {
	for _, c := range valid {
		for _, n := range []int{0, -1, full + 1, 2 * full, math.MaxInt, math.MinInt} {
			for _, key := range keys {
				got, err := Put(c.f, key, n)
				checkFailed(t, c.name+": Put", got, err, api.ErrArg)
			}
		}
	}
}

// P55: what may not become greater, and what may.
func TestPutLarge(t *testing.T) {
	for _, c := range []struct {
		name   string
		f      api.Few
		key, n int
		want   api.Few
		err    api.Errno
	}{
		{"a counter becomes full", of(2, 0, 5, 1), 5, full - 1, of(2, 0, 5, full), api.OK},
		{"a counter becomes full at once", of(2, full, 5, 1), 6, full, of(2, full, 5, 1, 6, full), api.OK},
		{"a counter becomes too great", of(2, 0, 5, 1), 5, full, api.Few{}, api.ErrLarge},
		{"by 1", of(2, 0, 5, full), 5, 1, api.Few{}, api.ErrLarge},
		{"twice as great", of(2, full, 5, full), 5, full, api.Few{}, api.ErrLarge},
		{"the last of 16", filled(16, 0, 16, 0, full), 15, 1, api.Few{}, api.ErrLarge},
		{"a key beside a full counter", of(2, 0, 5, full), 6, 1, of(2, 0, 5, full, 6, 1), api.OK},
		{"1 from full counters", of(2, 0, 5, full, 6, full), 7, 1, of(2, 1, 5, full-1, 6, full-1), api.OK},
		{"all of full counters", of(2, 0, 5, full, 6, full), 7, full, of(2, full), api.OK},
		{"all of full counters, 1 too much", of(2, 1, 5, full, 6, full), 7, full, api.Few{}, api.ErrLarge},
		{"all is lost", of(1, full-3, 5, 4), 6, 3, of(1, full, 5, 1), api.OK},
		{"too much is lost", of(1, full-2, 5, 4), 6, 3, api.Few{}, api.ErrLarge},
		{"more than all is lost", of(1, full, 5, 4), 6, 1, api.Few{}, api.ErrLarge},
		{"nothing more is lost", of(1, full, 5, 4), 5, 1, of(1, full, 5, 5), api.OK},
		{"keys may be greater", of(2, 0, full+1, 1), math.MaxInt, 1, of(2, 0, full+1, 1, math.MaxInt, 1), api.OK},
	} {
		if got, err := Put(c.f, c.key, c.n); !equal(got, c.want) || err != c.err {
			t.Errorf("%s: Put(%v, %d, %d) = %v, %d, want %v, %d", c.name, c.f, c.key, c.n, got, err, c.want, c.err)
		}
	}
}

// putAll returns the summary after all keys of l came once.
func putAll(t *testing.T, k int, l []int) api.Few {
	t.Helper()
	f := api.Few{K: k}
	for _, key := range l {
		next, err := Put(f, key, 1)
		if err != api.OK || Check(next) != api.OK {
			t.Fatalf("Put(%v, %d, 1) = %v, %d", f, key, next, err)
		}
		f = next
	}
	return f
}

// checkBounds compares a summary with the keys that came.
func checkBounds(t *testing.T, f api.Few, l []int) {
	t.Helper()
	for key := range 6 {
		count := 0
		for _, x := range l {
			if x == key {
				count++
			}
		}
		if low, high, err := Ask(f, key); low > count || high < count || err != api.OK {
			t.Fatalf("after %v: Ask(%v, %d) = %d, %d, %d, but it came %d times", l, f, key, low, high, err, count)
		}
	}
	// What is lost was subtracted from K+1 counters at least.
	left := 0
	for _, c := range f.Counters {
		left += c.N
	}
	if f.Lost*(f.K+1) > len(l)-left {
		t.Fatalf("after %v: %v, too much was lost", l, f)
	}
}

// P55, P56: all lists of 7 keys, of which each came as often as Ask says.
func TestPutAll(t *testing.T) {
	for k := 1; k <= 4; k++ {
		eachList(7, []int{0, 1, 2, 3}, func(l []int) {
			f := putAll(t, k, l)
			checkBounds(t, f, l)
			if k == 4 && f.Lost != 0 {
				t.Fatalf("after %v: %v, but all keys have a counter", l, f)
			}
		})
	}
}

// P55: a key that comes n times at once is one that comes n times.
func TestPutUnits(t *testing.T) {
	for k := 1; k <= 3; k++ {
		eachList(6, []int{1, 2, 3}, func(l []int) {
			f, units := api.Few{K: k}, api.Few{K: k}
			for i, n := range l {
				key := i * 5 % 4
				f, _ = Put(f, key, n)
				for range n {
					units, _ = Put(units, key, 1)
				}
			}
			if !equal(f, units) || f.K != k {
				t.Fatalf("K %d: %v at once %v, one by one %v", k, l, f, units)
			}
		})
	}
}

// P56: given summaries.
func TestAsk(t *testing.T) {
	for _, c := range []struct {
		name      string
		f         api.Few
		key       int
		low, high int
	}{
		{"empty", of(1, 0), 5, 0, 0},
		{"empty, some lost", of(1, 3), 5, 0, 3},
		{"empty, the most lost", of(1, full), 5, 0, full},
		{"nothing lost", of(1, 0, 5, 2), 5, 2, 2},
		{"some lost", of(1, 3, 5, 2), 5, 2, 5},
		{"missing before", of(2, 3, 5, 2, 7, 4), 4, 0, 3},
		{"the first", of(2, 3, 5, 2, 7, 4), 5, 2, 5},
		{"missing inside", of(2, 3, 5, 2, 7, 4), 6, 0, 3},
		{"the last", of(2, 3, 5, 2, 7, 4), 7, 4, 7},
		{"missing after", of(2, 3, 5, 2, 7, 4), 8, 0, 3},
		{"0", of(3, 1, -2, 8, 0, 9, 2, 7), 0, 9, 10},
		{"below 0", of(3, 1, -2, 8, 0, 9, 2, 7), -2, 8, 9},
		{"missing below 0", of(3, 1, -2, 8, 0, 9, 2, 7), -1, 0, 1},
		{"the greatest", of(2, full, 5, full, 7, 1), 5, full, 2 * full},
		{"the least key", of(2, 3, math.MinInt, 6, math.MaxInt, 4), math.MinInt, 6, 9},
		{"the greatest key", of(2, 3, math.MinInt, 6, math.MaxInt, 4), math.MaxInt, 4, 7},
	} {
		if low, high, err := Ask(c.f, c.key); low != c.low || high != c.high || err != api.OK {
			t.Errorf("%s: Ask(%v, %d) = %d, %d, %d, want %d, %d, OK", c.name, c.f, c.key, low, high, err, c.low, c.high)
		}
	}
}

// P56: each counter of each number of counters, and the keys between them.
func TestAskEach(t *testing.T) {
	for m := range 17 {
		f := api.Few{K: 16, Lost: 1000}
		for i := range m {
			f.Counters = append(f.Counters, api.Counter{Key: 2 * i, N: 10 + i})
		}
		for key := -3; key < 40; key++ {
			want := 0
			if key%2 == 0 && key >= 0 && key < 2*m {
				want = 10 + key/2
			}
			if low, high, err := Ask(f, key); low != want || high != want+1000 || err != api.OK {
				t.Errorf("Ask(%v, %d) = %d, %d, %d, want %d, %d, OK", f, key, low, high, err, want, want+1000)
			}
		}
	}
}

// P57: given summaries.
func TestJoin(t *testing.T) {
	for _, c := range []struct {
		name       string
		f, g, want api.Few
	}{
		{"both empty", of(2, 0), of(2, 0), of(2, 0)},
		{"nil and an empty list", of(2, 0), api.Few{K: 2, Counters: []api.Counter{}}, of(2, 0)},
		{"both empty, some lost", of(2, 3), of(2, 4), of(2, 7)},
		{"the first empty", of(2, 1), of(2, 0, 5, 1, 6, 2), of(2, 1, 5, 1, 6, 2)},
		{"the second empty", of(2, 0, 5, 1, 6, 2), of(2, 1), of(2, 1, 5, 1, 6, 2)},
		{"equal keys", of(2, 1, 5, 1, 6, 2), of(2, 2, 5, 10, 6, 20), of(2, 3, 5, 11, 6, 22)},
		{"some equal keys", of(3, 0, 5, 1, 6, 2), of(3, 0, 6, 10, 7, 20), of(3, 0, 5, 1, 6, 12, 7, 20)},
		{"keys by turns", of(4, 0, 5, 1, 7, 2), of(4, 0, 6, 3, 8, 4), of(4, 0, 5, 1, 6, 3, 7, 2, 8, 4)},
		{"keys below 0", of(4, 0, -5, 1, 0, 2), of(4, 0, -7, 3, -1, 4), of(4, 0, -7, 3, -5, 1, -1, 4, 0, 2)},
		{"one too many", of(2, 0, 5, 1, 6, 2), of(2, 0, 7, 3), of(2, 1, 6, 1, 7, 2)},
		{"one too many, of equal ones", of(2, 0, 5, 2, 6, 2), of(2, 0, 7, 3), of(2, 2, 7, 1)},
		{"one too many, all equal", of(2, 0, 5, 2, 6, 2), of(2, 5, 7, 2), of(2, 7)},
		{"two too many", of(2, 0, 5, 4, 6, 1), of(2, 0, 7, 3, 8, 2), of(2, 2, 5, 2, 7, 1)},
		{"two too many, one stays", of(2, 0, 5, 4, 6, 3), of(2, 0, 7, 3, 8, 2), of(2, 3, 5, 1)},
		{"two too many, none stays", of(2, 0, 5, 3, 6, 3), of(2, 0, 7, 3, 8, 2), of(2, 3)},
		{"a sum stays", of(2, 1, 5, 2, 6, 3), of(2, 1, 5, 2, 7, 3), of(2, 5, 5, 1)},
		{"size 1", of(1, 0, 5, 4), of(1, 0, 6, 3), of(1, 3, 5, 1)},
		{"size 1, equal keys", of(1, 0, 5, 4), of(1, 2, 5, 3), of(1, 2, 5, 7)},
		{"the least and the greatest key", of(2, 0, math.MaxInt, 4), of(2, 0, math.MinInt, 3), of(2, 0, math.MinInt, 3, math.MaxInt, 4)},
		{"size 16, twice full", filled(16, 0, 16, 0, 2), filled(16, 0, 16, 16, 3), filled(16, 2, 16, 16, 1)},
		{"size 16, of each half", filled(16, 0, 8, 0, 2), filled(16, 0, 8, 8, 2), filled(16, 0, 16, 0, 2)},
	} {
		for _, pair := range [][2]api.Few{{c.f, c.g}, {c.g, c.f}} {
			if got, err := Join(pair[0], pair[1]); !equal(got, c.want) || err != api.OK {
				t.Errorf("%s: Join(%v, %v) = %v, %d, want %v, OK", c.name, pair[0], pair[1], got, err, c.want)
			}
		}
	}
}

// P57: summaries of different sizes, also empty ones and ones that would be too
// great together.
func TestJoinSizes(t *testing.T) {
	for k := 1; k <= 16; k++ {
		for m := 1; m <= 16; m++ {
			for _, n := range []int{0, 1, min(k, m)} {
				for _, lost := range []int{0, full} {
					got, err := Join(filled(k, lost, n, 0, 1), filled(m, lost, n, 0, 1))
					switch {
					case k != m:
						checkFailed(t, "Join of different sizes", got, err, api.ErrLen)
					case lost == full:
						checkFailed(t, "Join of too much", got, err, api.ErrLarge)
					case !equal(got, filled(k, 0, n, 0, 2)) || err != api.OK:
						t.Errorf("Join of the sizes %d, with %d counters = %v, %d", k, n, got, err)
					}
				}
			}
		}
	}
}

// P57: only the numbers of the result may not be too great.
func TestJoinLarge(t *testing.T) {
	for _, c := range []struct {
		name       string
		f, g, want api.Few
		err        api.Errno
	}{
		{"a counter becomes full", of(2, 0, 5, 1), of(2, 0, 5, full-1), of(2, 0, 5, full), api.OK},
		{"a counter becomes too great", of(2, 0, 5, 1), of(2, 0, 5, full), api.Few{}, api.ErrLarge},
		{"twice as great", of(1, 0, 5, full), of(1, 0, 5, full), api.Few{}, api.ErrLarge},
		{"the last of 16", filled(16, 0, 16, 0, full), of(16, 0, 15, 1), api.Few{}, api.ErrLarge},
		{"all is lost", of(2, 1), of(2, full-1), of(2, full), api.OK},
		{"too much is lost", of(2, 1), of(2, full), api.Few{}, api.ErrLarge},
		{"twice as much", of(2, full), of(2, full), api.Few{}, api.ErrLarge},
		{"all is lost by the subtraction", of(1, 1, 5, full), of(1, 2, 6, full-3), of(1, full, 5, 3), api.OK},
		{"too much is lost by the subtraction", of(1, 1, 5, full), of(1, 2, 6, full-2), api.Few{}, api.ErrLarge},
		{"too great before the subtraction", of(2, 0, 5, full, 6, full), of(2, 0, 5, full, 7, full), of(2, full, 5, full), api.OK},
		{"too great after it, too", of(2, 0, 5, full, 6, full), of(2, 0, 5, full, 7, full-1), api.Few{}, api.ErrLarge},
		{"one of two is too great after it", of(3, 0, 4, full, 5, 9, 6, 8), of(3, 0, 4, 8, 7, 7), api.Few{}, api.ErrLarge},
		{"it is full after it", of(3, 0, 4, full, 5, 9, 6, 8), of(3, 0, 4, 7, 7, 7), of(3, 7, 4, full, 5, 2, 6, 1), api.OK},
		{"both too much", of(1, full, 5, full), of(1, full, 5, full), api.Few{}, api.ErrLarge},
		{"keys may be greater", of(2, 0, full+1, 1), of(2, 0, math.MaxInt, 1), of(2, 0, full+1, 1, math.MaxInt, 1), api.OK},
	} {
		for _, pair := range [][2]api.Few{{c.f, c.g}, {c.g, c.f}} {
			if got, err := Join(pair[0], pair[1]); !equal(got, c.want) || err != c.err {
				t.Errorf("%s: Join(%v, %v) = %v, %d, want %v, %d", c.name, pair[0], pair[1], got, err, c.want, c.err)
			}
		}
	}
}

// summed returns what Join should, of small numbers, by counting up to what is
// to be subtracted.
func summed(f, g api.Few) api.Few {
	sums := map[int]int{}
	for _, c := range slices.Concat(f.Counters, g.Counters) {
		sums[c.Key] += c.N
	}
	by := 0
	for isTooMany(sums, f.K, by) {
		by++
	}
	want := api.Few{K: f.K, Lost: f.Lost + g.Lost + by}
	for _, key := range slices.Sorted(maps.Keys(sums)) {
		if sums[key] > by {
			want.Counters = append(want.Counters, api.Counter{Key: key, N: sums[key] - by})
		}
	}
	return want
}

// isTooMany reports whether more than k numbers would be left.
func isTooMany(sums map[int]int, k, by int) bool {
	left := 0
	for _, n := range sums {
		if n > by {
			left++
		}
	}
	return left > k
}

// P57: all pairs of summaries of up to 3 counters, also of joined ones, and of
// K counters too many.
func TestJoinAll(t *testing.T) {
	for k := 1; k <= 4; k++ {
		var all []api.Few
		eachList(5, []int{0, 1, 3}, func(l []int) {
			f := api.Few{K: k, Lost: l[0] + l[1]}
			for key, n := range l {
				if n > 0 && len(f.Counters) < k {
					f.Counters = append(f.Counters, api.Counter{Key: key, N: n + key%2})
				}
			}
			all = append(all, f)
		})
		for _, f := range all {
			for _, g := range all {
				want := summed(f, g)
				if got, err := Join(f, g); !equal(got, want) || err != api.OK {
					t.Fatalf("Join(%v, %v) = %v, %d, want %v, OK", f, g, got, err, want)
				}
			}
		}
	}
}

// P55 to P57: parts of a list, in both groupings, and what Ask says of each key.
func TestJoinParts(t *testing.T) {
	for k := 1; k <= 3; k++ {
		eachList(6, []int{0, 1, 2, 3}, func(l []int) {
			a, b, c := putAll(t, k, l[:2]), putAll(t, k, l[2:3]), putAll(t, k, l[3:])
			first, _ := Join(a, b)
			left, err := Join(first, c)
			if err != api.OK {
				t.Fatalf("Join(%v, %v) = %d", first, c, err)
			}
			last, _ := Join(b, c)
			right, err := Join(a, last)
			if err != api.OK {
				t.Fatalf("Join(%v, %v) = %d", a, last, err)
			}
			checkBounds(t, left, l)
			checkBounds(t, right, l)
		})
	}
}

// P58: given lists.
func TestMost(t *testing.T) {
	for _, c := range []struct {
		name string
		l    []int
		want int
		is   bool
	}{
		{"none", nil, 0, false},
		{"an empty list", []int{}, 0, false},
		{"one", []int{5}, 5, true},
		{"one 0", []int{0}, 0, true},
		{"one below 0", []int{-5}, -5, true},
		{"the greatest integer", []int{math.MaxInt}, math.MaxInt, true},
		{"the least integer", []int{math.MinInt, 1, math.MinInt}, math.MinInt, true},
		{"two equal", []int{5, 5}, 5, true},
		{"two different", []int{5, 6}, 0, false},
		{"two of three, at the start", []int{5, 5, 6}, 5, true},
		{"two of three, apart", []int{5, 6, 5}, 5, true},
		{"two of three, at the end", []int{6, 5, 5}, 5, true},
		{"three different", []int{5, 6, 7}, 0, false},
		{"three different, the last 0", []int{5, 6, 0}, 0, false},
		{"half", []int{5, 5, 6, 6}, 0, false},
		{"half, of different ones", []int{5, 6, 5, 7}, 0, false},
		{"half, at the end", []int{6, 7, 5, 5}, 0, false},
		{"half 0", []int{0, 1, 0, 2}, 0, false},
		{"the most, but no half", []int{5, 6, 5, 7, 8}, 0, false},
		{"the others first", []int{6, 7, 8, 5, 5, 5, 5}, 5, true},
		{"the others last", []int{5, 5, 5, 5, 6, 7, 8}, 5, true},
		{"40 equal", slices.Repeat([]int{5}, 40), 5, true},
		{"20 of 40", slices.Repeat([]int{5, 6}, 20), 0, false},
		{"21 of 40", append(slices.Repeat([]int{5, 6}, 19), 5, 5), 5, true},
		{"21 of 40, at the end", append(slices.Repeat([]int{6}, 19), slices.Repeat([]int{5}, 21)...), 5, true},
		{"20 of 39", append(slices.Repeat([]int{5, 6}, 19), 5), 5, true},
		{"19 of 39", append(slices.Repeat([]int{5, 6}, 19), 7), 0, false},
	} {
		if got, is, err := Most(c.l); got != c.want || is != c.is || err != api.OK {
			t.Errorf("%s: Most(%v) = %d, %t, %d, want %d, %t, OK", c.name, c.l, got, is, err, c.want, c.is)
		}
	}
}

// P58: all lists of up to 8 of four numbers.
func TestMostAll(t *testing.T) {
	for n := range 9 {
		eachList(n, []int{0, 1, 2, 3}, func(l []int) {
			want, wantIs := 0, false
			counts := map[int]int{}
			for _, x := range l {
				counts[x]++
				if counts[x] > n/2 {
					want, wantIs = x, true
				}
			}
			if got, is, err := Most(l); got != want || is != wantIs || err != api.OK {
				t.Fatalf("Most(%v) = %d, %t, %d, want %d, %t, OK", l, got, is, err, want, wantIs)
			}
		})
	}
}

// P58: a list that is too long has no majority, even if all elements are equal.
func TestMostLarge(t *testing.T) {
	for n := range 100 {
		got, is, err := Most(slices.Repeat([]int{5}, n))
		switch {
		case n > 40 && (got != 0 || is || err != api.ErrLarge):
			t.Errorf("Most of %d equal ones = %d, %t, %d, want 0, false, ErrLarge", n, got, is, err)
		case n > 0 && n <= 40 && (got != 5 || !is || err != api.OK):
			t.Errorf("Most of %d equal ones = %d, %t, %d, want 5, true, OK", n, got, is, err)
		}
	}
	if _, _, err := Most(slices.Repeat([]int{5}, 50)[:40]); err != api.OK {
		t.Errorf("Most of 40 with spare capacity = %d, want OK", err)
	}
}

// P1: no function panics, whatever its arguments, and no result comes with an error.
func TestAnything(t *testing.T) {
	numbers := []int{0, 1, 2, 16, 17, full, full + 1, -1, math.MaxInt, math.MinInt}
	var all []api.Few
	for _, k := range numbers {
		for _, lost := range []int{0, 3, full, -1, math.MaxInt} {
			for _, m := range []int{0, 1, 2, 16, 17, 50} {
				for _, n := range numbers {
					all = append(all, filled(k, lost, m, n-2, 1), filled(k, lost, m, 0, n))
				}
			}
		}
	}
	for i, f := range all {
		for _, key := range keys {
			for _, n := range numbers {
				got, err := Put(f, key, n)
				anySummary(t, "Put", got, err)
			}
			low, high, err := Ask(f, key)
			if err != api.OK && (low != 0 || high != 0) || low < 0 || high < low {
				t.Errorf("Ask(%v, %d) = %d, %d, %d", f, key, low, high, err)
			}
		}
		for j := i % 7; j < len(all); j += 7 {
			got, err := Join(f, all[j])
			anySummary(t, "Join", got, err)
		}
	}
	for n := range 50 {
		Most(numbers[:n%len(numbers)])
		Most(make([]int, n))
	}
}

func anySummary(t *testing.T, name string, f api.Few, err api.Errno) {
	t.Helper()
	if err != api.OK && !isZero(f) || err == api.OK && Check(f) != api.OK {
		t.Errorf("%s = %v, %d", name, f, err)
	}
}

// spoil changes all counters of f, with their spare capacity.
func spoil(f api.Few) {
	l := f.Counters[:cap(f.Counters)]
	for i := range l {
		l[i] = api.Counter{Key: -77, N: -77}
	}
}

// P2: the arguments stay as they are, and so does their spare capacity, even
// if the results are changed.
func TestArgumentsKept(t *testing.T) {
	left, right := counters(3, 4, 5, 6, 7, 8, 70, 1, 71, 1, 72, 1), counters(2, 9, 5, 2, 8, 3, 80, 1, 81, 1, 82, 1)
	wantLeft, wantRight := slices.Clone(left), slices.Clone(right)
	for _, k := range []int{3, 5, 16} {
		for n := range 4 {
			for m := range 4 {
				f, g := api.Few{K: k, Counters: left[:n]}, api.Few{K: k, Counters: right[:m]}
				Check(f)
				for key := range 10 {
					Ask(f, key)
					for _, count := range []int{1, 5, full} {
						got, _ := Put(f, key, count)
						spoil(got)
					}
				}
				for _, other := range []api.Few{g, f, of(k, 0), of(k, full, 4, full), of(k+1, 0)} {
					got, _ := Join(f, other)
					spoil(got)
					got, _ = Join(other, f)
					spoil(got)
				}
			}
		}
	}
	if !slices.Equal(left, wantLeft) || !slices.Equal(right, wantRight) {
		t.Errorf("the arguments are now %v, %v", left, right)
	}
	l := []int{5, 6, 5, 7, 8, 9}
	Most(l[:3])
	if !slices.Equal(l, []int{5, 6, 5, 7, 8, 9}) {
		t.Errorf("the list is now %v", l)
	}
}

// P2: results are new each time, do not change with the arguments, and depend
// on the arguments alone.
func TestResultsNew(t *testing.T) {
	for range 3 {
		f, g := of(3, 1, 5, 4, 6, 3, 7, 2), of(3, 2, 5, 1, 8, 9)
		put, _ := Put(f, 9, 1)
		putAgain, _ := Put(f, 9, 1)
		same, _ := Put(putAgain, 5, 1)
		joined, _ := Join(f, g)
		joinedAgain, _ := Join(f, g)
		alone, _ := Join(g, of(3, 0))
		aloneAgain, _ := Join(of(3, 0), g)
		for _, x := range []api.Few{f, g, put, joined, alone} {
			spoil(x)
		}
		for _, c := range []struct{ got, want api.Few }{
			{putAgain, of(3, 2, 5, 3, 6, 2, 7, 1)},
			{joinedAgain, of(3, 5, 5, 3, 6, 1, 8, 7)},
			{aloneAgain, of(3, 2, 5, 1, 8, 9)},
		} {
			if !equal(c.got, c.want) {
				t.Errorf("after a change of others: %v, want %v", c.got, c.want)
			}
		}
		spoil(putAgain)
		if !equal(same, of(3, 2, 5, 4, 6, 2, 7, 1)) {
			t.Errorf("after a change of the argument: %v", same)
		}
	}
}
