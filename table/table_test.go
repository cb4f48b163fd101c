package table

import (
	"math"
	"math/big"
	"slices"
	"testing"

	"cullender/api"
	"cullender/mix"
)

// full is the greatest counter.
const full = 1000000000000

// of returns a sketch with these rows.
func of(rows ...[]int) api.Table {
	t := api.Table{Rows: rows}
	if len(rows) > 0 {
		t.Wide = len(rows[0])
	}
	return t
}

// filled returns a sketch of which all counters are n.
func filled(wide, many, n int) api.Table {
	t := api.Table{Wide: wide}
	for range many {
		t.Rows = append(t.Rows, slices.Repeat([]int{n}, wide))
	}
	return t
}

func empty(wide, many int) api.Table {
	return filled(wide, many, 0)
}

// with returns the sketch with n in the counter at the column of row i.
func with(t api.Table, i, column, n int) api.Table {
	t.Rows = cloned(t.Rows)
	t.Rows[i][column] = n
	return t
}

// wider returns the sketch with a different Wide and the same rows.
func wider(wide int, t api.Table) api.Table {
	t.Wide = wide
	return t
}

func cloned(rows [][]int) [][]int {
	l := slices.Clone(rows)
	for i := range l {
		l[i] = slices.Clone(l[i])
	}
	return l
}

func equal(t, u api.Table) bool {
	return t.Wide == u.Wide && slices.EqualFunc(t.Rows, u.Rows, slices.Equal)
}

// isZero reports whether t is what comes with an error.
func isZero(t api.Table) bool {
	return t.Wide == 0 && len(t.Rows) == 0
}

// valid has sketches without an error.
var valid = []struct {
	name string
	t    api.Table
}{
	{"the least", empty(1, 1)},
	{"the least, full", filled(1, 1, full)},
	{"one column, 4 rows", empty(1, 4)},
	{"32 columns, one row", empty(32, 1)},
	{"the greatest", empty(32, 4)},
	{"the greatest, full", filled(32, 4, full)},
	{"different counters", of([]int{0, 1, full}, []int{2, full - 1, 3})},
	{"8 columns, 2 rows", filled(8, 2, 5)},
}

// invalid has sketches with the error of Check, which all functions return.
var invalid = []struct {
	name string
	t    api.Table
	want api.Errno
}{
	{"nothing set", api.Table{}, api.ErrArg},
	{"no columns", wider(0, of([]int{}, []int{})), api.ErrArg},
	{"no columns, but a counter", wider(0, empty(1, 1)), api.ErrArg},
	{"-1 columns", wider(-1, empty(1, 1)), api.ErrArg},
	{"33 columns", empty(33, 1), api.ErrArg},
	{"33 columns, but 32 counters", wider(33, empty(32, 1)), api.ErrArg},
	{"the most columns", wider(math.MaxInt, empty(8, 1)), api.ErrArg},
	{"the least columns", wider(math.MinInt, empty(8, 1)), api.ErrArg},
	{"no rows", api.Table{Wide: 8}, api.ErrArg},
	{"an empty list of rows", api.Table{Wide: 8, Rows: [][]int{}}, api.ErrArg},
	{"a row in the spare capacity only", api.Table{Wide: 8, Rows: empty(8, 1).Rows[:0]}, api.ErrArg},
	{"5 rows", empty(8, 5), api.ErrArg},
	{"5 rows, one too short", api.Table{Wide: 2, Rows: [][]int{{1}, {0, 0}, {0, 0}, {0, 0}, {0, 0}}}, api.ErrArg},
	{"33 columns, a counter too few", wider(33, empty(31, 2)), api.ErrArg},
	{"a nil row", api.Table{Wide: 1, Rows: [][]int{nil}}, api.ErrLen},
	{"an empty row", api.Table{Wide: 1, Rows: [][]int{{}}}, api.ErrLen},
	{"a counter too few", wider(8, empty(7, 2)), api.ErrLen},
	{"a counter too many", wider(8, empty(9, 2)), api.ErrLen},
	{"a counter too few, but for the spare capacity", api.Table{Wide: 8, Rows: [][]int{make([]int, 7, 8)}}, api.ErrLen},
	{"the last of 4 rows too short", of([]int{0, 0}, []int{0, 0}, []int{0, 0}, []int{0}), api.ErrLen},
	{"the last of 4 rows too long", of([]int{0, 0}, []int{0, 0}, []int{0, 0}, []int{0, 0, 0}), api.ErrLen},
	{"a short row with an invalid counter", api.Table{Wide: 2, Rows: [][]int{{-1}}}, api.ErrLen},
	{"a counter of -1", of([]int{-1}), api.ErrArg},
	{"a counter too great", of([]int{full + 1}), api.ErrArg},
	{"the greatest counter", of([]int{0, math.MaxInt}), api.ErrArg},
	{"the least counter", of([]int{math.MinInt, 0}), api.ErrArg},
	{"the last counter of all is -1", with(empty(32, 4), 3, 31, -1), api.ErrArg},
	{"the last counter of all is too great", with(empty(32, 4), 3, 31, full+1), api.ErrArg},
	{"a counter of -1, then a row too short", of([]int{0, -1}, []int{0}), api.ErrArg},
	{"a row too short, then a counter of -1", of([]int{0, 0}, []int{0}, []int{0, -1}), api.ErrLen},
	{"a counter too great, then a row too long", of([]int{full + 1, 0}, []int{0, 0, 0}), api.ErrArg},
}

// keys has numbers of all kinds, also negative ones.
var keys = []int{0, 1, 2, 3, 31, 32, 1 << 56, -1, -2, math.MaxInt, math.MinInt, 123456789, 7046029254386353131}

// P50: valid sketches.
func TestCheckValid(t *testing.T) {
	for _, c := range valid {
		if err := Check(c.t); err != api.OK {
			t.Errorf("%s: Check(%v) = %d, want OK", c.name, c.t, err)
		}
	}
}

// P50: invalid sketches, and of several errors the first.
func TestCheckInvalid(t *testing.T) {
	for _, c := range invalid {
		if err := Check(c.t); err != c.want {
			t.Errorf("%s: Check(%v) = %d, want %d", c.name, c.t, err, c.want)
		}
	}
}

// P50: all widths and numbers of rows, and in each row the right number of
// counters or about as many.
func TestCheckSizes(t *testing.T) {
	for wide := -2; wide <= 35; wide++ {
		for many := range 7 {
			for _, off := range []int{-1, 0, 1} {
				for at := range many {
					x := wider(wide, empty(max(wide, 0), many))
					x.Rows[at] = make([]int, max(wide+off, 0))
					want := api.OK
					switch {
					case wide < 1 || wide > 32 || many > 4:
						want = api.ErrArg
					case off != 0:
						want = api.ErrLen
					}
					if err := Check(x); err != want {
						t.Errorf("Check of Wide %d, %d rows and %d counters in row %d = %d, want %d", wide, many, len(x.Rows[at]), at, err, want)
					}
				}
			}
			if err := Check(wider(wide, empty(5, 0))); err != api.ErrArg {
				t.Errorf("Check of Wide %d without rows = %d, want ErrArg", wide, err)
			}
		}
	}
}

// P50: each counter may be the one with an error.
func TestCheckCounters(t *testing.T) {
	for i := range 4 {
		for column := range 32 {
			for _, n := range []int{math.MinInt, -1, 0, 1, full - 1, full, full + 1, math.MaxInt} {
				want := api.OK
				if n < 0 || n > full {
					want = api.ErrArg
				}
				if err := Check(with(empty(32, 4), i, column, n)); err != want {
					t.Errorf("Check with %d at %d, %d = %d, want %d", n, i, column, err, want)
				}
			}
		}
	}
}

// P50: all other functions return the error of Check, for t and then for u.
func TestOthersCheck(t *testing.T) {
	for _, c := range invalid {
		for _, key := range keys {
			for _, n := range []int{0, -1, full + 1} {
				got, err := Put(c.t, key, n)
				checkFailed(t, c.name+": Put", got, err, c.want)
			}
			if got, err := Ask(c.t, key); got != 0 || err != c.want {
				t.Errorf("%s: Ask(%v, %d) = %d, %d, want 0, %d", c.name, c.t, key, got, err, c.want)
			}
		}
		for _, other := range valid {
			got, err := Join(c.t, other.t)
			checkFailed(t, c.name+": Join, first", got, err, c.want)
			got, err = Join(other.t, c.t)
			checkFailed(t, c.name+": Join, second", got, err, c.want)
		}
		for _, other := range invalid {
			got, err := Join(c.t, other.t)
			checkFailed(t, c.name+" and "+other.name+": Join", got, err, c.want)
		}
	}
}

func checkFailed(t *testing.T, name string, got api.Table, err, want api.Errno) {
	t.Helper()
	if !isZero(got) || err != want {
		t.Errorf("%s = %v, %d, want none, %d", name, got, err, want)
	}
}

// placed has the columns of given keys. They were computed apart from this
// program, with integers of any size.
var placed = []struct {
	key, wide int
	want      []int
}{
	{0, 8, []int{7, 4}},
	{1, 8, []int{1, 7}},
	{7, 8, []int{7, 4}}, // the columns of 0
	{0, 32, []int{15, 20, 15, 12}},
	{1, 32, []int{1, 7, 30, 11}},
	{-1, 32, []int{0, 9, 9, 18}},
	{math.MaxInt, 32, []int{7, 7, 16, 27}},
	{math.MinInt, 32, []int{27, 18, 0, 25}},
	{123456789, 31, []int{13, 4, 0, 24}},
	{-2, 31, []int{3, 16, 16, 10}},
	{7046029254386353131, 32, []int{0, 15}}, // the sum in row 0 is 2^64
	{77, 17, []int{15, 8, 7}},
	{5, 3, []int{2, 1, 2, 2}},
	{0, 10, []int{5, 0, 9, 4}},
	{3, 7, []int{2}},
	{9, 1, []int{0, 0, 0, 0}},
}

// P51: Put adds to one counter of each row, and to no other.
func TestPut(t *testing.T) {
	for _, c := range placed {
		for _, before := range []int{0, 1, full - 1000} {
			for _, n := range []int{0, 1, 2, 999, 1000} {
				x := filled(c.wide, len(c.want), before)
				want := filled(c.wide, len(c.want), before)
				for i, column := range c.want {
					want.Rows[i][column] += n
				}
				if got, err := Put(x, c.key, n); !equal(got, want) || err != api.OK {
					t.Errorf("Put(%v, %d, %d) = %v, %d, want %v, OK", x, c.key, n, got, err, want)
				}
			}
		}
	}
}

// P51: the number to add is out of range, also if it would be added to a full
// counter.
func TestPutNumber(t *testing.T) {
	for _, x := range valid {
		for _, n := range []int{-1, -2, full + 1, -full, math.MaxInt, math.MinInt} {
			for _, key := range keys {
				got, err := Put(x.t, key, n)
				checkFailed(t, x.name+": Put", got, err, api.ErrArg)
			}
		}
	}
}

// P51: a counter of the key may become full, but not more; other counters do
// not matter.
func TestPutLarge(t *testing.T) {
	for _, c := range placed {
		for i, column := range c.want {
			for _, n := range []int{0, 1, 2, full - 1, full} {
				room := with(filled(c.wide, len(c.want), 0), i, column, full-n)
				want := empty(c.wide, len(c.want))
				for j, at := range c.want {
					want.Rows[j][at] = n
				}
				want.Rows[i][column] = full
				if got, err := Put(room, c.key, n); !equal(got, want) || err != api.OK {
					t.Errorf("Put(%v, %d, %d) = %v, %d, want %v, OK", room, c.key, n, got, err, want)
				}
				if n == 0 {
					continue
				}
				got, err := Put(with(room, i, column, full-n+1), c.key, n)
				checkFailed(t, "Put with a counter that is too great", got, err, api.ErrLarge)
				got, err = Put(with(room, i, column, full), c.key, n)
				checkFailed(t, "Put with a full counter", got, err, api.ErrLarge)
			}
		}
		others := filled(c.wide, len(c.want), full)
		for i, column := range c.want {
			others.Rows[i][column] = 0
		}
		if got, err := Put(others, c.key, full); !equal(got, filled(c.wide, len(c.want), full)) || err != api.OK {
			t.Errorf("Put(%v, %d, %d) = %v, %d, want a full one, OK", others, c.key, full, got, err)
		}
	}
}

// columns returns the columns of a key, with integers of any size.
func columns(key, wide, many int) []int {
	var l []int
	for i := range many {
		sum := new(big.Int).SetUint64(11400714819323198485)
		sum.Mul(sum, big.NewInt(int64(i+1)))
		sum.Add(sum, big.NewInt(int64(key)))
		sum.Mod(sum, new(big.Int).Lsh(big.NewInt(1), 64))
		hash := new(big.Int).SetUint64(mix.Mix(sum.Uint64()))
		l = append(l, int(hash.Mod(hash, big.NewInt(int64(wide))).Int64()))
	}
	return l
}

// P51, P52: all widths and numbers of rows.
func TestSizes(t *testing.T) {
	for wide := 1; wide <= 32; wide++ {
		for many := 1; many <= 4; many++ {
			for k := range 20 {
				key := keys[(wide+many+k)%len(keys)] + k
				want := filled(wide, many, 1)
				rising, falling := filled(wide, many, 1), filled(wide, many, 1)
				for i, column := range columns(key, wide, many) {
					want.Rows[i][column] = 8
					rising.Rows[i][column] = 3 + i
					falling.Rows[i][column] = 9 - i
				}
				if got, err := Put(filled(wide, many, 1), key, 7); !equal(got, want) || err != api.OK {
					t.Fatalf("Put of %d, wide %d, %d rows = %v, %d, want %v, OK", key, wide, many, got, err, want)
				}
				checkAsk(t, rising, key, 3)
				checkAsk(t, falling, key, 9-(many-1))
			}
		}
	}
}

func checkAsk(t *testing.T, x api.Table, key, want int) {
	t.Helper()
	if got, err := Ask(x, key); got != want || err != api.OK {
		t.Fatalf("Ask(%v, %d) = %d, %d, want %d, OK", x, key, got, err, want)
	}
}

// P52: given sketches, with the columns known.
func TestAsk(t *testing.T) {
	for _, c := range []struct {
		name      string
		t         api.Table
		key, want int
	}{
		{"empty", empty(8, 2), 0, 0},
		{"full", filled(8, 2, full), 0, full},
		{"both counters equal", with(with(empty(8, 2), 0, 7, 5), 1, 4, 5), 0, 5},
		{"the first less", with(with(empty(8, 2), 0, 7, 5), 1, 4, 6), 0, 5},
		{"the second less", with(with(empty(8, 2), 0, 7, 6), 1, 4, 5), 0, 5},
		{"only the first", with(empty(8, 2), 0, 7, 5), 0, 0},
		{"only the second", with(empty(8, 2), 1, 4, 5), 0, 0},
		{"others less", with(with(empty(8, 2), 0, 7, 5), 1, 4, 6), 1, 0},
		{"others greater", with(with(filled(8, 2, full), 0, 7, 5), 1, 4, 6), 0, 5},
		{"a key with the same columns", with(with(empty(8, 2), 0, 7, 5), 1, 4, 6), 7, 5},
		{"one row", with(empty(8, 1), 0, 7, 5), 0, 5},
		{"one column", filled(1, 4, 9), 123, 9},
		{"one column, the last row least", of([]int{4}, []int{3}, []int{2}, []int{1}), 123, 1},
		{"a negative key", with(with(with(with(empty(32, 4), 0, 0, 9), 1, 9, 8), 2, 9, 7), 3, 18, 10), -1, 7},
	} {
		if got, err := Ask(c.t, c.key); got != c.want || err != api.OK {
			t.Errorf("%s: Ask(%v, %d) = %d, %d, want %d, OK", c.name, c.t, c.key, got, err, c.want)
		}
	}
}

// entry is a key that came n times.
type entry struct{ key, n int }

// putAll returns the sketch after all entries.
func putAll(t *testing.T, x api.Table, list []entry) api.Table {
	t.Helper()
	for _, e := range list {
		next, err := Put(x, e.key, e.n)
		if err != api.OK || Check(next) != api.OK {
			t.Fatalf("Put(%v, %d, %d) = %v, %d", x, e.key, e.n, next, err)
		}
		x = next
	}
	return x
}

// P52: the result is never too low, and with all other keys never higher than
// the number of all occurrences.
func TestAskAll(t *testing.T) {
	for wide := 1; wide <= 32; wide++ {
		for many := 1; many <= 4; many++ {
			x := empty(wide, many)
			count := map[int]int{}
			sum := 0
			for i := range 40 {
				e := entry{keys[i*i%len(keys)] ^ i%3, i * 7 % 11}
				x = putAll(t, x, []entry{e})
				count[e.key] += e.n
				sum += e.n
				for key, n := range count {
					if got, err := Ask(x, key); got < n || got > sum || err != api.OK {
						t.Fatalf("Ask(%v, %d) = %d, %d, want %d to %d, OK", x, key, got, err, n, sum)
					}
				}
			}
		}
	}
}

// P52: without a key that shares its counters, the result is exact.
func TestAskExact(t *testing.T) {
	for many := 1; many <= 4; many++ {
		for wide := 1; wide <= 32; wide++ {
			for _, key := range keys {
				x := putAll(t, empty(wide, many), []entry{{key, 3}, {key, 0}, {key, 5}})
				checkAsk(t, x, key, 8)
			}
		}
	}
}

// P53: given sketches.
func TestJoin(t *testing.T) {
	for _, c := range []struct {
		name       string
		t, u, want api.Table
	}{
		{"both empty", empty(8, 2), empty(8, 2), empty(8, 2)},
		{"the first empty", of([]int{0, 0}), of([]int{3, 4}), of([]int{3, 4})},
		{"the second empty", of([]int{3, 4}), of([]int{0, 0}), of([]int{3, 4})},
		{"equal", of([]int{3, 4}, []int{5, 2}), of([]int{3, 4}, []int{5, 2}), of([]int{6, 8}, []int{10, 4})},
		{"different", of([]int{3, 4}, []int{5, 2}), of([]int{7, 0}, []int{1, 6}), of([]int{10, 4}, []int{6, 8})},
		{"one counter", of([]int{3}), of([]int{4}), of([]int{7})},
		{"full then", of([]int{full - 4, 0}), of([]int{4, full}), of([]int{full, full})},
		{"the greatest", filled(32, 4, full-1), filled(32, 4, 1), filled(32, 4, full)},
	} {
		if got, err := Join(c.t, c.u); !equal(got, c.want) || err != api.OK {
			t.Errorf("%s: Join(%v, %v) = %v, %d, want %v, OK", c.name, c.t, c.u, got, err, c.want)
		}
	}
}

// P53: sketches of different sizes, also if a counter would be too great.
func TestJoinSizes(t *testing.T) {
	for _, wide := range []int{1, 2, 3, 8, 31, 32} {
		for _, other := range []int{1, 2, 3, 8, 31, 32} {
			for many := 1; many <= 4; many++ {
				for otherMany := 1; otherMany <= 4; otherMany++ {
					for _, n := range []int{0, full} {
						got, err := Join(filled(wide, many, n), filled(other, otherMany, n))
						switch {
						case wide != other || many != otherMany:
							checkFailed(t, "Join of different sizes", got, err, api.ErrLen)
						case n > 0:
							checkFailed(t, "Join of full sketches", got, err, api.ErrLarge)
						case !equal(got, empty(wide, many)) || err != api.OK:
							t.Errorf("Join of size %d, %d = %v, %d, want an empty one, OK", wide, many, got, err)
						}
					}
				}
			}
		}
	}
}

// P53: each counter may be the one that would be too great.
func TestJoinLarge(t *testing.T) {
	for i := range 4 {
		for column := range 32 {
			for _, n := range []int{0, 1, 7, full - 1, full} {
				x := with(empty(32, 4), i, column, n)
				rest := with(empty(32, 4), i, column, full-n)
				if got, err := Join(x, rest); !equal(got, with(empty(32, 4), i, column, full)) || err != api.OK {
					t.Errorf("Join with %d and %d at %d, %d = %v, %d", n, full-n, i, column, got, err)
				}
				if n == 0 {
					continue
				}
				more := with(empty(32, 4), i, column, full-n+1)
				got, err := Join(x, more)
				checkFailed(t, "Join with a counter that is too great", got, err, api.ErrLarge)
				got, err = Join(more, x)
				checkFailed(t, "Join with a counter that is too great", got, err, api.ErrLarge)
			}
		}
	}
}

// P51, P53: joined sketches equal one sketch of all entries, in any order, and
// also of entries that come again.
func TestJoinAll(t *testing.T) {
	var list []entry
	for i, key := range keys {
		list = append(list, entry{key, i * i}, entry{key, 1})
	}
	for _, none := range []api.Table{empty(1, 1), empty(3, 4), empty(8, 2), empty(31, 3), empty(32, 4)} {
		for cut := range len(list) + 1 {
			a, b := putAll(t, none, list[:cut]), putAll(t, none, list[cut:])
			back := slices.Clone(list)
			slices.Reverse(back)
			want := putAll(t, none, back)
			checkJoin(t, a, b, want)
			checkJoin(t, b, a, want)
			checkJoin(t, want, none, want)
			twice := putAll(t, want, list)
			checkJoin(t, want, want, twice)
			more, _ := Join(a, want)
			checkJoin(t, b, more, twice)
		}
	}
}

func checkJoin(t *testing.T, x, y, want api.Table) {
	t.Helper()
	if got, err := Join(x, y); !equal(got, want) || err != api.OK {
		t.Fatalf("Join(%v, %v) = %v, %d, want %v, OK", x, y, got, err, want)
	}
}

// P1: no function panics, whatever its arguments, and no result comes with an error.
func TestAnything(t *testing.T) {
	numbers := []int{0, 1, 2, 5, 32, 33, full, -1, math.MaxInt, math.MinInt}
	var all []api.Table
	for _, wide := range numbers {
		for _, length := range []int{0, 1, 2, 33} {
			for _, many := range []int{0, 1, 2, 5} {
				for _, n := range numbers {
					all = append(all, wider(wide, filled(length, many, n)))
				}
				rows := filled(length, many, 0).Rows
				all = append(all, api.Table{Wide: wide, Rows: append(rows, nil, []int{1})})
			}
		}
	}
	for i, x := range all {
		for _, key := range keys {
			for _, n := range numbers {
				got, err := Put(x, key, n)
				anyTable(t, "Put", got, err)
			}
			if got, err := Ask(x, key); err != api.OK && got != 0 || got < 0 || got > full {
				t.Errorf("Ask(%v, %d) = %d, %d", x, key, got, err)
			}
		}
		for j := i % 7; j < len(all); j += 7 {
			got, err := Join(x, all[j])
			anyTable(t, "Join", got, err)
		}
	}
}

func anyTable(t *testing.T, name string, x api.Table, err api.Errno) {
	t.Helper()
	if err != api.OK && !isZero(x) || err == api.OK && Check(x) != api.OK {
		t.Errorf("%s = %v, %d", name, x, err)
	}
}

// spoil changes all of x, with its spare capacity.
func spoil(x api.Table) {
	rows := x.Rows[:cap(x.Rows)]
	for i, row := range rows {
		row = row[:cap(row)]
		for j := range row {
			row[j] = -77
		}
		rows[i] = nil
	}
}

// roomy returns rows that are parts of longer ones, and the longer ones.
func roomy(n int) (api.Table, [][]int) {
	long := filled(6, 4, n).Rows
	rows := cloned(long)
	for i := range 2 {
		rows[i] = long[i][:3]
	}
	return api.Table{Wide: 3, Rows: rows[:2]}, long
}

// P2: the arguments stay as they are, and so does their spare capacity, even
// if the results are changed.
func TestArgumentsKept(t *testing.T) {
	x, long := roomy(4)
	y, other := roomy(5)
	for _, key := range keys {
		Check(x)
		Ask(x, key)
		got, _ := Put(x, key, 3)
		spoil(got)
		got, _ = Put(x, key, 0)
		spoil(got)
		Put(x, key, full)
	}
	got, _ := Join(x, y)
	spoil(got)
	got, _ = Join(x, x)
	spoil(got)
	got, _ = Join(x, empty(3, 2))
	spoil(got)
	Join(x, filled(3, 2, full))
	Join(x, empty(3, 3))
	for _, c := range []struct {
		t    api.Table
		long [][]int
		n    int
	}{{x, long, 4}, {y, other, 5}} {
		if !equal(c.t, filled(3, 2, c.n)) || !equal(of(c.long...), filled(6, 4, c.n)) || !equal(of(c.t.Rows[2:4]...), filled(6, 2, c.n)) {
			t.Errorf("the arguments are now %v, with the rows %v", c.t.Rows[:4], c.long)
		}
	}
}

// P2: results are new each time, do not change with the arguments, and depend
// on the arguments alone.
func TestResultsNew(t *testing.T) {
	for range 3 {
		x, y := filled(8, 2, 1), filled(8, 2, 2)
		put, _ := Put(x, 0, 5)
		putAgain, _ := Put(x, 0, 5)
		same, _ := Put(putAgain, 0, 0)
		joined, _ := Join(x, y)
		joinedAgain, _ := Join(x, y)
		spoil(x)
		spoil(y)
		spoil(put)
		spoil(joined)
		// The key 0 has the columns 7 and 4.
		want := with(with(filled(8, 2, 1), 0, 7, 6), 1, 4, 6)
		if !equal(putAgain, want) || !equal(joinedAgain, filled(8, 2, 3)) {
			t.Errorf("after a change of others: Put %v, Join %v", putAgain, joinedAgain)
		}
		spoil(putAgain)
		if !equal(same, want) {
			t.Errorf("after a change of the argument: Put %v", same)
		}
	}
}

// P2: the rows of a result share no memory with each other, even if those of
// the argument do.
func TestRowsApart(t *testing.T) {
	row := make([]int, 8)
	shared := api.Table{Wide: 8, Rows: [][]int{row, row, row}}
	for _, result := range []func() (api.Table, api.Errno){
		func() (api.Table, api.Errno) { return Put(shared, 0, 0) },
		func() (api.Table, api.Errno) { return Join(shared, shared) },
		func() (api.Table, api.Errno) { return Put(empty(8, 3), 0, 0) },
	} {
		got, err := result()
		if err != api.OK {
			t.Fatal(err)
		}
		for i := range got.Rows {
			long := got.Rows[i][:cap(got.Rows[i])]
			for j := range long {
				long[j] = i + 1
			}
		}
		for i, l := range got.Rows {
			if !slices.Equal(l, slices.Repeat([]int{i + 1}, 8)) {
				t.Errorf("row %d is now %v", i, l)
			}
		}
	}
	if got, err := Put(shared, 0, 4); !slices.Equal(got.Rows[1], []int{0, 0, 0, 0, 4, 0, 0, 0}) || err != api.OK {
		t.Errorf("Put into equal rows = %v, %d", got, err)
	}
}
