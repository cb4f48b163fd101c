package gate

import (
	"math"
	"math/big"
	"testing"

	"cullender/api"
)

// maxNum has the type that the arguments have.
const maxNum int = 1000000000000

// maxTh is the greatest threshold, and the greatest random value.
const maxTh int = 1<<56 - 1

// outside has numbers that are neither thresholds nor random values.
var outside = []int{-1, -maxTh, 1 << 56, 1<<56 + 1, math.MaxInt, math.MinInt}

// P12: whether a random value reaches a threshold.
func TestKeep(t *testing.T) {
	for _, c := range []struct {
		th, r int
		want  bool
	}{
		{0, 0, true},
		{0, maxTh, true},
		{5, 4, false},
		{5, 5, true},
		{5, 6, true},
		{1, 0, false},
		{1 << 55, 1<<55 - 1, false},
		{1 << 55, 1 << 55, true},
		{maxTh, 0, false},
		{maxTh, maxTh - 1, false},
		{maxTh, maxTh, true},
	} {
		if got, err := Keep(c.th, c.r); got != c.want || err != api.OK {
			t.Errorf("Keep(%d, %d) = %v, %d, want %v, OK", c.th, c.r, got, err, c.want)
		}
	}
}

// P12: a threshold or a random value out of range.
func TestKeepInvalid(t *testing.T) {
	for _, n := range outside {
		for _, c := range [][2]int{{n, 0}, {n, maxTh}, {0, n}, {maxTh, n}, {n, n}} {
			if got, err := Keep(c[0], c[1]); got || err != api.ErrArg {
				t.Errorf("Keep(%d, %d) = %v, %d, want false, ErrArg", c[0], c[1], got, err)
			}
		}
	}
}

// P13: exactly 2^56 / 2^n random values reach the threshold of level n.
func TestLevel(t *testing.T) {
	for n, want := range map[int]int{
		0: 0, 1: 1 << 55, 2: 3 << 54, 3: 7 << 53, 8: 255 << 48, 19: (1<<19 - 1) << 37, 20: (1<<20 - 1) << 36,
	} {
		if got, err := Level(n); got != want || err != api.OK {
			t.Errorf("Level(%d) = %d, %d, want %d, OK", n, got, err, want)
		}
	}
	for n := 0; n <= 20; n++ {
		th, err := Level(n)
		// The random values that reach it are those from th to 2^56 - 1.
		if reach := 1<<56 - th; reach<<n != 1<<56 || err != api.OK {
			t.Errorf("Level(%d) = %d, %d, which %d random values reach", n, th, err, reach)
		}
	}
}

// P13: a level out of range.
func TestLevelInvalid(t *testing.T) {
	for _, n := range []int{-1, 21, 56, 57, 64, 1 << 32, math.MaxInt, math.MinInt} {
		if got, err := Level(n); got != 0 || err != api.ErrArg {
			t.Errorf("Level(%d) = %d, %d, want 0, ErrArg", n, got, err)
		}
	}
}

// P14: the thresholds of given parts.
func TestPart(t *testing.T) {
	for _, c := range []struct{ num, den, want int }{
		{1, 1, 0},
		{7, 7, 0},
		{maxNum, maxNum, 0},
		{1, 2, 1 << 55},
		{500, 1000, 1 << 55},
		{1, 4, 3 << 54},
		{3, 4, 1 << 54},
		{1, 3, 48038396025285290},
		{2, 3, 24019198012642645},
		{1, 10, 64851834634135142},
		{1, maxNum, 72057594037855878},
		{maxNum - 1, maxNum, 72057},
		{1, 1 << 39, 1<<56 - 1<<17},
	} {
		if got, err := Part(c.num, c.den); got != c.want || err != api.OK {
			t.Errorf("Part(%d, %d) = %d, %d, want %d, OK", c.num, c.den, got, err, c.want)
		}
	}
}

// reaches reports whether at least num/den of all random values reach th, for
// th up to 2^56: (2^56 - th) * den >= num * 2^56.
func reaches(th, num, den int) bool {
	left := new(big.Int).Mul(big.NewInt(1<<56-int64(th)), big.NewInt(int64(den)))
	right := new(big.Int).Lsh(big.NewInt(int64(num)), 56)
	return left.Cmp(right) >= 0
}

func checkPart(t *testing.T, num, den int) {
	t.Helper()
	th, err := Part(num, den)
	if err != api.OK || th < 0 || th > maxTh {
		t.Fatalf("Part(%d, %d) = %d, %d", num, den, th, err)
	}
	if !reaches(th, num, den) {
		t.Errorf("Part(%d, %d) = %d is too great", num, den, th)
	}
	if reaches(th+1, num, den) {
		t.Errorf("Part(%d, %d) = %d is not the greatest", num, den, th)
	}
}

// P14: the threshold is reached by the part, and no greater one is.
func TestPartGreatest(t *testing.T) {
	for den := 1; den <= 70; den++ {
		for num := 1; num <= den; num++ {
			checkPart(t, num, den)
			checkPart(t, maxNum-den+num, maxNum)
		}
	}
	x := uint64(1)
	for i := 0; i < 5000; i++ {
		x = x*6364136223846793005 + 1442695040888963407
		den := int(x>>8)%maxNum>>(i%40) + 1
		x = x*6364136223846793005 + 1442695040888963407
		checkPart(t, int(x>>8)%den+1, den)
	}
}

// P14: parts that are not more than nothing and at most all, and numbers out of range.
func TestPartInvalid(t *testing.T) {
	for _, c := range [][2]int{
		{0, 0}, {1, 0}, {0, 1}, {-1, 1}, {1, -1}, {-1, -1}, {-1, -2}, {2, 1}, {8, 7},
		{1, maxNum + 1}, {maxNum + 1, maxNum + 1}, {maxNum + 1, maxNum}, {maxNum, maxNum - 1}, {0, maxNum},
		{math.MaxInt, math.MaxInt}, {1, math.MaxInt}, {math.MaxInt, 1},
		{math.MinInt, math.MinInt}, {math.MinInt, 1}, {1, math.MinInt},
	} {
		if got, err := Part(c[0], c[1]); got != 0 || err != api.ErrArg {
			t.Errorf("Part(%d, %d) = %d, %d, want 0, ErrArg", c[0], c[1], got, err)
		}
	}
}

// P15: what given numbers of sampled items represent.
func TestCount(t *testing.T) {
	for _, c := range []struct{ n, th, want int }{
		{0, 0, 0},
		{0, maxTh, 0},
		{1, 0, 1},
		{maxNum, 0, maxNum},
		{5, 1 << 55, 10},
		{5, 3 << 54, 20},
		{1, 1, 1},
		{3, 1 << 54, 4},
		{1, 1 << 54, 1},
		{2, 1 << 54, 2},
		{1, maxTh, 1 << 56},
		{64, maxTh, 1 << 62},
		{128, maxTh - 1, 1 << 62},
		{1, maxTh - 2, 24019198012642645},
	} {
		if got, err := Count(c.n, c.th); got != c.want || err != api.OK {
			t.Errorf("Count(%d, %d) = %d, %d, want %d, OK", c.n, c.th, got, err, c.want)
		}
	}
}

// P15: numbers out of range, and results that exceed 2^62.
func TestCountInvalid(t *testing.T) {
	for _, c := range []struct {
		n, th int
		want  api.Errno
	}{
		{-1, 0, api.ErrArg},
		{-1, maxTh, api.ErrArg},
		{maxNum + 1, 0, api.ErrArg},
		{maxNum + 1, maxTh, api.ErrArg}, // and too large, which is listed later
		{math.MaxInt, maxTh, api.ErrArg},
		{math.MinInt, 0, api.ErrArg},
		{65, maxTh, api.ErrLarge},
		{127, maxTh, api.ErrLarge},
		{128, maxTh, api.ErrLarge}, // 2^63
		{255, maxTh, api.ErrLarge},
		{256, maxTh, api.ErrLarge}, // 2^64
		{257, maxTh, api.ErrLarge},
		{512, maxTh - 1, api.ErrLarge}, // 2^64
		{1000, maxTh, api.ErrLarge},
		{129, maxTh - 1, api.ErrLarge},
		{193, maxTh - 2, api.ErrLarge},
		{maxNum, maxTh, api.ErrLarge},
	} {
		if got, err := Count(c.n, c.th); got != 0 || err != c.want {
			t.Errorf("Count(%d, %d) = %d, %d, want 0, %d", c.n, c.th, got, err, c.want)
		}
	}
	for _, th := range outside {
		for _, n := range []int{0, 1, maxNum, -1} {
			if got, err := Count(n, th); got != 0 || err != api.ErrArg {
				t.Errorf("Count(%d, %d) = %d, %d, want 0, ErrArg", n, th, got, err)
			}
		}
	}
}

// countOf computes what Count returns with integers of any size.
func countOf(n, th int) (int, api.Errno) {
	q := new(big.Int).Lsh(big.NewInt(int64(n)), 56)
	q.Quo(q, big.NewInt(1<<56-int64(th)))
	if q.Cmp(new(big.Int).Lsh(big.NewInt(1), 62)) > 0 {
		return 0, api.ErrLarge
	}
	return int(q.Int64()), api.OK
}

func checkCount(t *testing.T, n, th int) {
	t.Helper()
	want, wantErr := countOf(n, th)
	if got, err := Count(n, th); got != want || err != wantErr {
		t.Errorf("Count(%d, %d) = %d, %d, want %d, %d", n, th, got, err, want, wantErr)
	}
}

// P15: over many numbers and thresholds Count is as computed with integers of any size.
func TestCountMany(t *testing.T) {
	for n := 0; n <= 600; n++ {
		for left := 1; left <= 12; left++ {
			checkCount(t, n, 1<<56-left)
		}
	}
	x := uint64(1)
	for i := 0; i < 20000; i++ {
		x = x*6364136223846793005 + 1442695040888963407
		n := int(x>>8) % (maxNum + 1) >> (i % 41)
		x = x*6364136223846793005 + 1442695040888963407
		checkCount(t, n, maxTh-int(x>>8)>>(i%57))
	}
}

// P15: around the greatest result, and around the greatest quotient of 64 bits.
func TestCountAroundBounds(t *testing.T) {
	for _, shift := range []int{6, 7, 8} {
		for _, left := range []int{1, 2, 3, 1000, 999999937, 3906250000, maxNum >> shift} {
			for d := -2; d <= 2; d++ {
				n := left<<shift + d
				if 0 <= n && n <= maxNum {
					checkCount(t, n, 1<<56-left)
				}
			}
		}
	}
}

// P12, P13, P15: what Level keeps of all, Count gives back.
func TestCountOfLevel(t *testing.T) {
	for n := 0; n <= 20; n++ {
		th, _ := Level(n)
		if got, err := Count(12345, th); got != 12345<<n || err != api.OK {
			t.Errorf("Count(12345, Level(%d)) = %d, %d, want %d", n, got, err, 12345<<n)
		}
		below, _ := Keep(th, max(th-1, 0))
		at, _ := Keep(th, th)
		if below != (n == 0) || !at {
			t.Errorf("level %d: kept below its threshold: %v, at it: %v", n, below, at)
		}
	}
}

// P1: no function panics, whatever its arguments, and no result comes with an error.
func TestAnything(t *testing.T) {
	numbers := append([]int{0, 1, 2, 3, 20, 21, 64, 255, 256, 1 << 55, maxTh - 1, maxTh, maxNum - 1, maxNum, maxNum + 1, 1 << 62, -2}, outside...)
	for _, a := range numbers {
		if got, err := Level(a); err != api.OK && got != 0 {
			t.Errorf("Level(%d) = %d, %d", a, got, err)
		}
		for _, b := range numbers {
			if got, err := Keep(a, b); err != api.OK && got {
				t.Errorf("Keep(%d, %d) = %v, %d", a, b, got, err)
			}
			if got, err := Part(a, b); err != api.OK && got != 0 || got < 0 || got > maxTh {
				t.Errorf("Part(%d, %d) = %d, %d", a, b, got, err)
			}
			if got, err := Count(a, b); err != api.OK && got != 0 || got < 0 {
				t.Errorf("Count(%d, %d) = %d, %d", a, b, got, err)
			}
		}
	}
}

// P2: the same arguments give the same results, whatever came before.
func TestNoState(t *testing.T) {
	part, _ := Part(1, 3)
	count, _ := Count(7, part)
	for n := -1; n < 100; n++ {
		Keep(n, 5)
		Level(n)
		Part(n, 50)
		Count(n, maxTh)
	}
	partAgain, _ := Part(1, 3)
	countAgain, _ := Count(7, part)
	if partAgain != part || countAgain != count {
		t.Errorf("Part and Count = %d, %d, then %d, %d", part, count, partAgain, countAgain)
	}
}
