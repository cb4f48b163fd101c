package hexa

import (
	"fmt"
	"math"
	"strings"
	"testing"

	"cullender/api"
)

var texts = []struct {
	n      int
	th, rv string
}{
	{0, "0", "00000000000000"},
	{1, "00000000000001", "00000000000001"},
	{15, "0000000000000f", "0000000000000f"},
	{16, "0000000000001", "00000000000010"},
	{1 << 55, "8", "80000000000000"},
	{3 << 54, "c", "c0000000000000"},
	{1 << 52, "1", "10000000000000"},
	{1 << 48, "01", "01000000000000"},
	{0x80000000000001, "80000000000001", "80000000000001"},
	{0x10203000000000, "10203", "10203000000000"},
	{0x123456789abcde, "123456789abcde", "123456789abcde"},
	{0xfedcba98765430, "fedcba9876543", "fedcba98765430"},
	{1<<56 - 16, "fffffffffffff", "fffffffffffff0"},
	{1<<56 - 1, "ffffffffffffff", "ffffffffffffff"},
}

// P6: thresholds as text.
func TestTh(t *testing.T) {
	for _, c := range texts {
		if got, err := Th(c.n); got != c.th || err != api.OK {
			t.Errorf("Th(%d) = %q, %d, want %q, OK", c.n, got, err, c.th)
		}
	}
}

// P6: random values as text.
func TestRv(t *testing.T) {
	for _, c := range texts {
		if got, err := Rv(c.n); got != c.rv || err != api.OK {
			t.Errorf("Rv(%d) = %q, %d, want %q, OK", c.n, got, err, c.rv)
		}
	}
}

// P6: numbers out of range have no text.
func TestOutOfRange(t *testing.T) {
	for _, n := range []int{-1, -16, 1 << 56, 1<<56 + 1, math.MaxInt, math.MinInt} {
		if got, err := Th(n); got != "" || err != api.ErrArg {
			t.Errorf("Th(%d) = %q, %d, want \"\", ErrArg", n, got, err)
		}
		if got, err := Rv(n); got != "" || err != api.ErrArg {
			t.Errorf("Rv(%d) = %q, %d, want \"\", ErrArg", n, got, err)
		}
	}
}

// P7: the numbers of given texts.
func TestParse(t *testing.T) {
	for _, c := range texts {
		if got, err := ParseTh(c.th); got != c.n || err != api.OK {
			t.Errorf("ParseTh(%q) = %d, %d, want %d, OK", c.th, got, err, c.n)
		}
		if got, err := ParseRv(c.rv); got != c.n || err != api.OK {
			t.Errorf("ParseRv(%q) = %d, %d, want %d, OK", c.rv, got, err, c.n)
		}
	}
}

// P6, P7: over many numbers the texts are as written elsewhere, and parsing undoes them.
func TestThereAndBack(t *testing.T) {
	x := uint64(1)
	for i := 0; i < 20000; i++ {
		x = x*6364136223846793005 + 1442695040888963407
		// Clear some of the low bits, so that all numbers of trailing zeros occur.
		n := int(x>>8) >> (i % 57) << (i % 57)
		rv, _ := Rv(n)
		th, _ := Th(n)
		wantRv := fmt.Sprintf("%014x", n)
		wantTh := strings.TrimRight(wantRv, "0")
		if wantTh == "" {
			wantTh = "0"
		}
		if rv != wantRv || th != wantTh {
			t.Fatalf("%d: Rv %q, Th %q, want %q, %q", n, rv, th, wantRv, wantTh)
		}
		if m, err := ParseRv(rv); m != n || err != api.OK {
			t.Fatalf("ParseRv(%q) = %d, %d, want %d", rv, m, err, n)
		}
		if m, err := ParseTh(th); m != n || err != api.OK {
			t.Fatalf("ParseTh(%q) = %d, %d, want %d", th, m, err, n)
		}
	}
}

// P7: texts that are not the Th of any number.
func TestParseThForm(t *testing.T) {
	for _, s := range []string{
		"", "00", "80", "10", "000", "00000000000000", "80000000000000",
		"fffffffffffff0", "000000000000001", "100000000000001", "fffffffffffffff",
		"G", "g", "8A", "A", "F", "0x8", "-1", "+1", " 8", "8 ", "8\n", "8\x00", "_1", "1_1",
		"/", ":", "`", "@", "\xff", "\xc3\xa9", strings.Repeat("1", 1000),
	} {
		if got, err := ParseTh(s); got != 0 || err != api.ErrForm {
			t.Errorf("ParseTh(%q) = %d, %d, want 0, ErrForm", s, got, err)
		}
	}
}

// P7: texts that are not the Rv of any number.
func TestParseRvForm(t *testing.T) {
	for _, s := range []string{
		"", "0", "8", "8000000000000", "800000000000000", "000000000000000",
		"ffffffffffffffff", "8000000000000g", "A0000000000000", "FFFFFFFFFFFFFF",
		"-0000000000001", "+0000000000001", "0x000000000001", " 8000000000000",
		"8000000000000 ", "8000000000000\x00", "800000_0000000", "\xff0000000000000",
		strings.Repeat("1", 1000),
	} {
		if got, err := ParseRv(s); got != 0 || err != api.ErrForm {
			t.Errorf("ParseRv(%q) = %d, %d, want 0, ErrForm", s, got, err)
		}
	}
}

func isDigit(c int) bool {
	return strings.IndexByte("0123456789abcdef", byte(c)) >= 0
}

// P7: of all bytes, only the 16 digits are accepted, in any place.
func TestParseEachByte(t *testing.T) {
	for c := 0; c < 256; c++ {
		want := api.ErrForm
		if isDigit(c) {
			want = api.OK
		}
		for i := 0; i < 14; i++ {
			text := []byte("11111111111111")
			text[i] = byte(c)
			s := string(text)
			if _, err := ParseRv(s); err != want {
				t.Errorf("ParseRv(%q): error %d, want %d", s, err, want)
			}
			if i == 13 && c == '0' {
				continue // no threshold ends in a zero
			}
			if _, err := ParseTh(s); err != want {
				t.Errorf("ParseTh(%q): error %d, want %d", s, err, want)
			}
		}
	}
}

// P7: a short text is the Th of the number that it parses to, or has no number.
func TestParseThShort(t *testing.T) {
	letters := "0189afgAF "
	for _, a := range letters {
		for _, b := range letters {
			for _, c := range letters {
				checkParseTh(t, string([]rune{a, b, c}))
			}
			checkParseTh(t, string([]rune{a, b}))
		}
		checkParseTh(t, string(a))
	}
}

func checkParseTh(t *testing.T, s string) {
	t.Helper()
	n, err := ParseTh(s)
	isForm := strings.Trim(s, "0123456789abcdef") == "" && (s == "0" || !strings.HasSuffix(s, "0"))
	if !isForm {
		if n != 0 || err != api.ErrForm {
			t.Errorf("ParseTh(%q) = %d, %d, want 0, ErrForm", s, n, err)
		}
		return
	}
	if back, _ := Th(n); back != s || err != api.OK {
		t.Errorf("ParseTh(%q) = %d, %d, and its Th is %q", s, n, err, back)
	}
}

// P2: the same arguments give the same results, whatever came before.
func TestNoState(t *testing.T) {
	first, _ := Th(1 << 40)
	kept, _ := Rv(1 << 40)
	copied := strings.Clone(kept)
	for n := 0; n < 100; n++ {
		Rv(n)
		ParseTh("g")
	}
	if again, _ := Th(1 << 40); again != first || kept != copied {
		t.Errorf("Th(2^40) = %q, then %q; its Rv was %q, is %q", first, again, copied, kept)
	}
}
