package mix

import (
	"strings"
	"testing"

	"cullender/api"
)

// The expected numbers were computed apart from this program, with integers
// of any size.

var mixed = []struct{ x, want uint64 }{
	{0, 0},
	{1, 6238072747940578789},
	{2, 15839785061582574730},
	{3, 2185194620014831856},
	{255, 3715836577830171958},
	{1 << 30, 3143522559155490559},
	{1 << 31, 17010196902690978975},
	{1 << 62, 1360429390938723525},
	{1 << 63, 2720858781877447050},
	{1<<64 - 1, 13029008266876403067},
	{12345678901234567890, 14636805034154084279},
	{11400714819323198485, 16294208416658607535},
}

// P3: Mix of given numbers.
func TestMix(t *testing.T) {
	for _, c := range mixed {
		if got := Mix(c.x); got != c.want {
			t.Errorf("Mix(%d) = %d, want %d", c.x, got, c.want)
		}
	}
}

// P3: Unmix of given numbers.
func TestUnmix(t *testing.T) {
	for _, c := range mixed {
		if got := Unmix(c.want); got != c.x {
			t.Errorf("Unmix(%d) = %d, want %d", c.want, got, c.x)
		}
	}
}

func checkInverse(t *testing.T, x uint64) {
	t.Helper()
	if got := Unmix(Mix(x)); got != x {
		t.Errorf("Unmix(Mix(%d)) = %d", x, got)
	}
	if got := Mix(Unmix(x)); got != x {
		t.Errorf("Mix(Unmix(%d)) = %d", x, got)
	}
}

// P3: Unmix undoes Mix for every pattern of one, two or many bits.
func TestMixInverse(t *testing.T) {
	for i := 0; i < 64; i++ {
		for j := 0; j < 64; j++ {
			x := uint64(1)<<i | uint64(1)<<j
			checkInverse(t, x)
			checkInverse(t, ^x)
			checkInverse(t, uint64(1)<<i-uint64(1)<<j)
		}
	}
	x := uint64(1)
	for i := 0; i < 10000; i++ {
		x = x*6364136223846793005 + 1442695040888963407
		checkInverse(t, x)
	}
}

// P4: the first numbers from state 0 on.
func TestNextFromZero(t *testing.T) {
	want := []struct{ state, number uint64 }{
		{11400714819323198485, 16294208416658607535},
		{4354685564936845354, 7960286522194355700},
		{15755400384260043839, 487617019471545679},
		{8709371129873690708, 17909611376780542444},
	}
	state := uint64(0)
	for i, w := range want {
		next, number := Next(state)
		if next != w.state || number != w.number {
			t.Errorf("step %d: Next(%d) = %d, %d, want %d, %d", i, state, next, number, w.state, w.number)
		}
		state = next
	}
}

// P4: the sum wraps around.
func TestNextWraps(t *testing.T) {
	next, number := Next(1<<64 - 1)
	if next != 11400714819323198484 || number != 16490336266968443936 {
		t.Errorf("Next(2^64-1) = %d, %d", next, number)
	}
	// The state of which the next one is 0, whose Mix is 0.
	next, number = Next(7046029254386353131)
	if next != 0 || number != 0 {
		t.Errorf("Next(7046029254386353131) = %d, %d, want 0, 0", next, number)
	}
}

// P5: hashes of given strings, among them ones that are not valid UTF-8.
func TestOf(t *testing.T) {
	cases := []struct {
		s    string
		want int
	}{
		{"", 69007642897004008},
		{"a", 774871143945248},
		{"b", 17510487645985636},
		{"ab", 45034143638611105},
		{"ba", 44339424386621342},
		{"\x00", 10692122767056971},
		{"\x00\x00", 34834796184851990},
		{"\xff", 22286778825326656},
		{"\xc3\xa9", 9908813309444097},
		{"\xff\xfe\x80", 38228722851876274},
		{"cullender", 55955498566610869},
		{strings.Repeat("a", 200), 26710470717647447},
	}
	for _, c := range cases {
		got, err := Of(c.s)
		if got != c.want || err != api.OK {
			t.Errorf("Of(%q) = %d, %d, want %d, OK", c.s, got, err, c.want)
		}
	}
}

// P5: every hash is in its range.
func TestOfRange(t *testing.T) {
	for i := 0; i < 256; i++ {
		for j := 0; j < 256; j++ {
			s := string([]byte{byte(i), byte(j)})
			got, err := Of(s)
			if got < 0 || got >= api.All || err != api.OK {
				t.Fatalf("Of(%q) = %d, %d", s, got, err)
			}
		}
	}
}

// P5: a text of more than 200 bytes has no hash; the bytes count, not the runes.
func TestOfLarge(t *testing.T) {
	for _, s := range []string{
		strings.Repeat("a", 201),
		strings.Repeat("\xc3\xa9", 101),
		strings.Repeat("\x00", 100000),
	} {
		got, err := Of(s)
		if got != 0 || err != api.ErrLarge {
			t.Errorf("Of of %d bytes = %d, %d, want 0, ErrLarge", len(s), got, err)
		}
	}
	if _, err := Of(strings.Repeat("\xc3\xa9", 100)); err != api.OK {
		t.Errorf("Of of 200 bytes: error %d", err)
	}
}

// P2: the same arguments give the same results, whatever came before.
func TestNoState(t *testing.T) {
	first, _ := Of("key")
	for _, s := range []string{"other", "", strings.Repeat("x", 201)} {
		Of(s)
		Next(uint64(len(s)))
	}
	if again, _ := Of("key"); again != first {
		t.Errorf("Of(\"key\") = %d, then %d", first, again)
	}
}
