package share

import (
	"math"
	"slices"
	"testing"

	"cullender/api"
)

const maxNum = 1000000000000

// times returns a list of n times x.
func times(n, x int) []int {
	return slices.Repeat([]int{x}, n)
}

// with returns a copy of l with x at index i.
func with(l []int, i, x int) []int {
	l = slices.Clone(l)
	l[i] = x
	return l
}

// total returns the sum of the demands.
func total(l []int) int {
	sum := 0
	for _, x := range l {
		sum += x
	}
	return sum
}

// next changes l to the list that follows it of those with numbers below top,
// and reports whether there is one.
func next(l []int, top int) bool {
	for i := range l {
		l[i]++
		if l[i] < top {
			return true
		}
		l[i] = 0
	}
	return false
}

// generator returns a function that returns numbers below its argument, the
// same ones each time.
func generator() func(below int) int {
	x := uint64(1)
	return func(below int) int {
		x = x*6364136223846793005 + 1442695040888963407
		return int(x>>11) % below
	}
}

// P63: the shares of given demands.
func TestFair(t *testing.T) {
	for _, c := range []struct {
		name    string
		room    int
		l, want []int
	}{
		{"no demands", 10, nil, nil},
		{"an empty list", 10, []int{}, nil},
		{"no demands and no room", 0, nil, nil},
		{"three equal demands", 10, []int{4, 4, 4}, []int{3, 3, 4}},
		{"one more of room", 11, []int{4, 4, 4}, []int{3, 4, 4}},
		{"just enough room", 12, []int{4, 4, 4}, []int{4, 4, 4}},
		{"more room than demands", 1000, []int{4, 4, 4}, []int{4, 4, 4}},
		{"one unit for the last", 1, []int{4, 4, 4}, []int{0, 0, 1}},
		{"no room", 0, []int{4, 4, 4}, []int{0, 0, 0}},
		{"one demand", 10, []int{4}, []int{4}},
		{"one demand above the room", 10, []int{11}, []int{10}},
		{"one demand of all room", 10, []int{10}, []int{10}},
		{"the demand 0", 10, []int{0}, []int{0}},
		{"demands of 0", 10, []int{0, 7, 0, 8}, []int{0, 5, 0, 5}},
		{"a small demand at the end", 10, []int{9, 2}, []int{8, 2}},
		{"a small demand at the beginning", 10, []int{2, 9}, []int{2, 8}},
		{"the greater of two gets the odd unit", 9, []int{7, 6}, []int{5, 4}},
		{"the last of two equal ones gets the odd unit", 9, []int{6, 6}, []int{4, 5}},
		{"the last of the greatest get the odd units", 11, []int{9, 1, 9, 9}, []int{3, 1, 3, 4}},
		{"descending", 20, []int{9, 8, 7, 6}, []int{5, 5, 5, 5}},
		{"descending, with odd units", 22, []int{9, 8, 7, 6}, []int{6, 6, 5, 5}},
		{"ascending, with odd units", 22, []int{6, 7, 8, 9}, []int{5, 5, 6, 6}},
		{"what small demands leave", 20, []int{1, 30, 2, 30}, []int{1, 8, 2, 9}},
		{"40 equal demands", 50, times(40, 5), append(times(30, 1), times(10, 2)...)},
		{"40 demands that descend to 2", 79, append(times(20, 5), times(20, 2)...), append(times(20, 2), with(times(20, 2), 0, 1)...)},
		{"the greatest demands", maxNum, times(40, maxNum), times(40, maxNum/40)},
		{"the greatest demand", maxNum, []int{maxNum}, []int{maxNum}},
		{"the greatest demand and the least", maxNum, []int{maxNum, 1}, []int{maxNum - 1, 1}},
		{"the greatest room", maxNum, []int{1, 2, 3}, []int{1, 2, 3}},
	} {
		if got, err := Fair(c.room, c.l); !slices.Equal(got, c.want) || err != api.OK {
			t.Errorf("%s: Fair(%d, %v) = %v, %d, want %v, OK", c.name, c.room, c.l, got, err, c.want)
		}
	}
}

// servedAfter returns how many of the demands above level are served after the
// one with index i.
func servedAfter(l []int, i, level int) int {
	after := 0
	for j, demand := range l {
		if demand > level && (demand > l[i] || demand == l[i] && j > i) {
			after++
		}
	}
	return after
}

// filledTo returns how much of the room is given to demands of up to level
// each.
func filledTo(l []int, level int) int {
	sum := 0
	for _, demand := range l {
		sum += min(demand, level)
	}
	return sum
}

// water returns what Fair should, in another way: like water, the room fills
// all demands to one level, and what is then too little for one unit more of
// all that are not full goes to those that are served last.
func water(room int, l []int) []int {
	level, above := 0, maxNum+1
	for above-level > 1 {
		middle := level + (above-level)/2
		if filledTo(l, middle) <= room {
			level = middle
		} else {
			above = middle
		}
	}
	odd := room - filledTo(l, level)
	shares := make([]int, len(l))
	for i, demand := range l {
		shares[i] = min(demand, level)
		if demand > level && servedAfter(l, i, level) < odd {
			shares[i]++
		}
	}
	return shares
}

// P63: all lists of up to 5 small demands, with all rooms up to more than they
// want.
func TestFairAll(t *testing.T) {
	for n := range 6 {
		l := make([]int, n)
		for {
			for room := range total(l) + 3 {
				want := water(room, l)
				if got, err := Fair(room, slices.Clone(l)); !slices.Equal(got, want) || err != api.OK {
					t.Fatalf("Fair(%d, %v) = %v, %d, want %v, OK", room, l, got, err, want)
				}
			}
			if !next(l, 5) {
				break
			}
		}
	}
}

// P63: longer lists, with many equal demands and with demands of all sizes.
func TestFairLong(t *testing.T) {
	number := generator()
	for n := 1; n <= 40; n++ {
		for _, top := range []int{2, 3, 10, 1000, maxNum + 1} {
			for range 20 {
				l := make([]int, n)
				for i := range l {
					l[i] = number(top)
				}
				room := number(min(total(l)+n, maxNum) + 1)
				want := water(room, l)
				if got, err := Fair(room, l); !slices.Equal(got, want) || err != api.OK {
					t.Fatalf("Fair(%d, %v) = %v, %d, want %v, OK", room, l, got, err, want)
				}
			}
		}
	}
}

// P63: no share is above its demand, all of the room is used while there is a
// demand for it, and a share below its demand is at most 1 below any other.
func TestFairness(t *testing.T) {
	number := generator()
	for i := range 2000 {
		l := make([]int, i%41)
		for j := range l {
			l[j] = number(30)
		}
		room := number(700)
		got, err := Fair(room, l)
		if len(got) != len(l) || err != api.OK || total(got) != min(room, total(l)) {
			t.Fatalf("Fair(%d, %v) = %v, %d", room, l, got, err)
		}
		for j, share := range got {
			if share < 0 || share > l[j] || share < l[j] && slices.Max(got) > share+1 {
				t.Fatalf("Fair(%d, %v) = %v: share %d is not fair", room, l, got, j)
			}
		}
	}
}

// P64: the levels of given demands.
func TestLevel(t *testing.T) {
	for _, c := range []struct {
		name string
		room int
		l    []int
		want int
		err  api.Errno
	}{
		{"no demands", 10, nil, 0, api.OK},
		{"no demands and no room", 0, nil, 0, api.OK},
		{"an empty list", 0, []int{}, 0, api.OK},
		{"demands of 0 and no room", 0, []int{0, 0}, 0, api.OK},
		{"more room than demands", 1000, []int{4, 4}, 0, api.OK},
		{"just enough room", 8, []int{4, 4}, 0, api.OK},
		{"room for all but one", 7, []int{4, 4}, 1, api.OK},
		{"room for half", 4, []int{4, 4}, 1, api.OK},
		{"room for less than half", 3, []int{4, 4}, 2, api.OK},
		{"room for a quarter", 2, []int{4, 4}, 2, api.OK},
		{"room for one", 1, []int{4, 4}, 3, api.OK},
		{"no room", 0, []int{4, 4}, 3, api.OK},
		{"each demand is rounded down, not their sum", 0, []int{1, 1}, 1, api.OK},
		{"40 demands are rounded down", 0, times(40, 1), 1, api.OK},
		{"40 odd demands", 40, times(40, 3), 1, api.OK},
		{"40 odd demands, and room for 39", 39, times(40, 3), 2, api.OK},
		{"the last level", 0, []int{1<<20 - 1}, 20, api.OK},
		{"the last level of 40", 0, times(40, 1<<20-1), 20, api.OK},
		{"the level before the last", 1, []int{1<<20 - 1}, 19, api.OK},
		{"2^20 and no room", 0, []int{1 << 20}, 0, api.ErrNone},
		{"2^20 and room for 1", 1, []int{1 << 20}, 20, api.OK},
		{"two of 2^20 and room for 1", 1, []int{1 << 20, 1 << 20}, 0, api.ErrNone},
		{"2^21 and room for 1", 1, []int{1 << 21}, 0, api.ErrNone},
		{"2^21 and room for 2", 2, []int{1 << 21}, 20, api.OK},
		{"one too great among 40", 0, with(times(40, 5), 17, 1<<20), 0, api.ErrNone},
		// 10^12 / 2^20 is 953674, not rounded 953674.3.
		{"the greatest demands", 40 * 953674, times(40, maxNum), 20, api.OK},
		{"the greatest demands, and room for one less", 40*953674 - 1, times(40, maxNum), 0, api.ErrNone},
		{"the greatest demands and the greatest room", maxNum, times(40, maxNum), 6, api.OK},
		{"the greatest demand and room", maxNum, []int{maxNum}, 0, api.OK},
		{"two of the greatest demands", maxNum, []int{maxNum, maxNum}, 1, api.OK},
		{"the greatest demand and 1", maxNum, []int{maxNum, 1}, 1, api.OK},
	} {
		if got, err := Level(c.room, c.l); got != c.want || err != c.err {
			t.Errorf("%s: Level(%d, %v) = %d, %d, want %d, %d", c.name, c.room, c.l, got, err, c.want, c.err)
		}
	}
}

// halvings returns what Level should, with the demands halved once at a time.
func halvings(room int, l []int) (int, api.Errno) {
	l = slices.Clone(l)
	for level := 0; level <= 20; level++ {
		if total(l) <= room {
			return level, api.OK
		}
		for i, demand := range l {
			l[i] = (demand - demand%2) / 2
		}
	}
	return 0, api.ErrNone
}

// P64: all lists of up to 4 small demands, with all rooms up to more than they
// want.
func TestLevelAll(t *testing.T) {
	for n := range 5 {
		l := make([]int, n)
		for {
			for room := range total(l) + 3 {
				want, wantErr := halvings(room, l)
				if got, err := Level(room, slices.Clone(l)); got != want || err != wantErr {
					t.Fatalf("Level(%d, %v) = %d, %d, want %d, %d", room, l, got, err, want, wantErr)
				}
			}
			if !next(l, 9) {
				break
			}
		}
	}
}

// P64: longer lists with demands of all sizes: each level comes, and none.
func TestLevelLong(t *testing.T) {
	number := generator()
	levels := map[int]int{}
	for i := range 20000 {
		l := make([]int, 1+i%40)
		top := number(maxNum)>>number(40) + 1
		for j := range l {
			l[j] = number(top + 1)
		}
		room := number(maxNum) >> number(40)
		want, wantErr := halvings(room, l)
		if got, err := Level(room, l); got != want || err != wantErr {
			t.Fatalf("Level(%d, %v) = %d, %d, want %d, %d", room, l, got, err, want, wantErr)
		}
		if wantErr == api.ErrNone {
			want = 21
		}
		levels[want]++
	}
	for level := range 22 {
		if levels[level] == 0 {
			t.Errorf("the level %d never came", level)
		}
	}
}

// P63, P64: both functions return the errors of the demands and of the room,
// ErrNone after them.
func TestInvalid(t *testing.T) {
	for _, c := range []struct {
		name string
		room int
		l    []int
		want api.Errno
	}{
		{"41 demands", 100, times(41, 1), api.ErrLarge},
		{"41 demands of 0", 0, times(41, 0), api.ErrLarge},
		{"41 demands out of range", 100, times(41, -1), api.ErrLarge},
		{"41 demands, the room out of range", -1, times(41, 1), api.ErrLarge},
		{"41 demands, all out of range", maxNum + 1, times(41, maxNum+1), api.ErrLarge},
		{"41 demands without a level", 0, times(41, maxNum), api.ErrLarge},
		{"1000 demands", 100, times(1000, 1), api.ErrLarge},
		{"a negative room", -1, []int{4, 4}, api.ErrArg},
		{"a negative room for demands of 0", -1, []int{0}, api.ErrArg},
		{"a negative room for no demands", -1, nil, api.ErrArg},
		{"the least room", math.MinInt, []int{4, 4}, api.ErrArg},
		{"a room above 10^12", maxNum + 1, []int{4, 4}, api.ErrArg},
		{"a room above 10^12 for no demands", maxNum + 1, nil, api.ErrArg},
		{"the greatest room", math.MaxInt, []int{4, 4}, api.ErrArg},
		{"a negative demand", 10, []int{-1}, api.ErrArg},
		{"a demand above 10^12", 10, []int{maxNum + 1}, api.ErrArg},
		{"a negative demand and no room", 0, []int{-1}, api.ErrArg},
		{"a demand out of range, and no level", 0, []int{maxNum, maxNum + 1}, api.ErrArg},
		{"a negative demand, and no level", 0, []int{maxNum, -1}, api.ErrArg},
		{"a room out of range, and no level", -1, []int{maxNum}, api.ErrArg},
		{"demands and room out of range", -1, []int{-1}, api.ErrArg},
		{"demands whose sum wraps around", 10, []int{math.MaxInt, math.MaxInt, 4}, api.ErrArg},
		{"demands whose sum is 0", 10, []int{5, -5}, api.ErrArg},
	} {
		checkInvalid(t, c.name, c.room, c.l, c.want)
	}
	for _, demand := range []int{-1, -5, maxNum + 1, 1 << 56, math.MaxInt, math.MinInt} {
		for n := 1; n <= 40; n++ {
			for i := range n {
				checkInvalid(t, "one demand out of range", 10, with(times(n, 1), i, demand), api.ErrArg)
			}
		}
	}
}

func checkInvalid(t *testing.T, name string, room int, l []int, want api.Errno) {
	t.Helper()
	if got, err := Fair(room, l); len(got) != 0 || err != want {
		t.Errorf("%s: Fair(%d, %v) = %v, %d, want none, %d", name, room, l, got, err, want)
	}
	if got, err := Level(room, l); got != 0 || err != want {
		t.Errorf("%s: Level(%d, %v) = %d, %d, want 0, %d", name, room, l, got, err, want)
	}
}

// P1: no function panics, whatever its arguments, and no result comes with an
// error.
func TestAnything(t *testing.T) {
	numbers := []int{0, 1, 2, 20, 21, 40, 41, 1 << 20, maxNum, maxNum + 1, 1 << 56, -1, -maxNum, math.MaxInt, math.MinInt}
	for _, room := range numbers {
		for _, n := range []int{0, 1, 2, 39, 40, 41, 1000} {
			for _, demand := range numbers {
				for _, last := range numbers {
					l := times(n, demand)
					if n > 0 {
						l[n-1] = last
					}
					anyShares(t, room, l)
				}
			}
		}
	}
}

func anyShares(t *testing.T, room int, l []int) {
	t.Helper()
	shares, err := Fair(room, l)
	if err != api.OK && len(shares) != 0 || err == api.OK && len(shares) != len(l) {
		t.Errorf("Fair(%d, %v) = %v, %d", room, l, shares, err)
	}
	level, levelErr := Level(room, l)
	if levelErr != api.OK && level != 0 || level < 0 || level > 20 {
		t.Errorf("Level(%d, %v) = %d, %d", room, l, level, levelErr)
	}
	if levelErr != err && (err != api.OK || levelErr != api.ErrNone) {
		t.Errorf("Fair(%d, %v) has the error %d, Level %d", room, l, err, levelErr)
	}
}

// overwrite changes all of l, with its spare capacity.
func overwrite(l []int) {
	l = l[:cap(l)]
	for i := range l {
		l[i] = -5
	}
}

// P2: the arguments stay as they are, and so does their spare capacity, even
// if the results are changed.
func TestArgumentsKept(t *testing.T) {
	all := []int{9, 2, 0, 4, 4, 77, 78, 79}
	for n := range 6 {
		for room := -1; room <= 20; room++ {
			Level(room, all[:n])
			shares, _ := Fair(room, all[:n])
			overwrite(shares)
		}
	}
	if !slices.Equal(all, []int{9, 2, 0, 4, 4, 77, 78, 79}) {
		t.Errorf("the demands are now %v", all)
	}
}

// P2: results are new each time, share nothing with each other or with the
// arguments, and depend on the arguments alone.
func TestResultsNew(t *testing.T) {
	for n := range 3 {
		l := []int{9, 2, 4}
		a, _ := Fair(10, l)
		b, _ := Fair(10, l)
		Fair(n, times(n, 7))
		Level(n, times(n, 7))
		overwrite(l)
		overwrite(a)
		if !slices.Equal(b, []int{4, 2, 4}) {
			t.Errorf("after a change of another result: %v", b)
		}
		// What the demands allow: their shares must not be the list itself.
		l = []int{1, 2, 3}
		whole, _ := Fair(10, l)
		overwrite(l)
		if !slices.Equal(whole, []int{1, 2, 3}) {
			t.Errorf("after a change of the demands: %v", whole)
		}
		if got, err := Level(3, []int{4, 4}); got != 2 || err != api.OK {
			t.Errorf("Level = %d, %d", got, err)
		}
	}
}
