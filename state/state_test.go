package state

import (
	"fmt"
	"math"
	"slices"
	"strconv"
	"strings"
	"testing"

	"cullender/api"
)

// pairs makes a list of its arguments: a key, its value, the next key, and so on.
func pairs(texts ...string) []api.Pair {
	var l []api.Pair
	for i := 0; i+1 < len(texts); i += 2 {
		l = append(l, api.Pair{Key: texts[i], Value: texts[i+1]})
	}
	return l
}

// numbered makes a list of n valid pairs, k0=1 and so on.
func numbered(n int) []api.Pair {
	var l []api.Pair
	for i := 0; i < n; i++ {
		l = append(l, api.Pair{Key: "k" + strconv.Itoa(i), Value: "1"})
	}
	return l
}

// invalid has lists of pairs with the error of Check, which Write, Mark and
// Set return, too.
var invalid = []struct {
	name string
	l    []api.Pair
	want api.Errno
}{
	{"41 pairs", numbered(41), api.ErrLarge},
	{"1000 pairs", numbered(1000), api.ErrLarge},
	{"41 pairs with none in form", make([]api.Pair, 41), api.ErrLarge},
	{"41 pairs with one key", slices.Repeat(pairs("a", "1"), 41), api.ErrLarge},
	{"no key, no value", pairs("", ""), api.ErrForm},
	{"no key", pairs("", "1"), api.ErrForm},
	{"no value", pairs("a", ""), api.ErrForm},
	{"key of 17 bytes", pairs("abcdefghijklmnopq", "1"), api.ErrForm},
	{"capital key", pairs("A", "1"), api.ErrForm},
	{"comma in a value", pairs("a", "1,2"), api.ErrForm},
	{"equals sign in a value", pairs("a", "1=2"), api.ErrForm},
	{"semicolon in a value", pairs("a", "1;2"), api.ErrForm},
	{"space in a value", pairs("a", "1 2"), api.ErrForm},
	{"delete in a value", pairs("a", "1\x7f"), api.ErrForm},
	{"last pair not in form", append(numbered(39), api.Pair{Key: "a"}), api.ErrForm},
	{"a key twice", pairs("a", "1", "a", "1"), api.ErrThere},
	{"a key twice, far apart", append(numbered(39), api.Pair{Key: "k0", Value: "2"}), api.ErrThere},
	{"a key twice, th", pairs("th", "8", "th", "4"), api.ErrThere},
	{"a key twice, the other pair not in form", pairs("a", "1", "a", ""), api.ErrForm},
	{"a key twice, then a pair not in form", pairs("a", "1", "a", "2", "b", ""), api.ErrThere},
	{"a pair not in form, then a key twice", pairs("b", "", "a", "1", "a", "2"), api.ErrForm},
	{"a key that is not valid twice", pairs("A", "1", "A", "1"), api.ErrForm},
}

// P8: valid keys and others.
func TestKey(t *testing.T) {
	for _, s := range []string{"a", "z", "0", "9", "th", "rv", "7up", "00", "abcdefghijklmnop", "0123456789abcdef"} {
		if !Key(s) {
			t.Errorf("Key(%q) = false", s)
		}
	}
	for _, s := range []string{
		"", "A", "Z", "th ", " th", "t h", "a-b", "a_b", "a.b", "a=", "a,", "a\n", "a\x00", "\xc3\xa9", "\xff",
		"abcdefghijklmnopq", "01234567890123456", strings.Repeat("a", 1000),
	} {
		if Key(s) {
			t.Errorf("Key(%q) = true", s)
		}
	}
}

// P8: of all bytes, only the small letters and the digits are in a key, in any place.
func TestKeyEachByte(t *testing.T) {
	for c := 0; c < 256; c++ {
		want := strings.IndexByte("abcdefghijklmnopqrstuvwxyz0123456789", byte(c)) >= 0
		for i := 0; i < 16; i++ {
			text := []byte(strings.Repeat("a", 16))
			text[i] = byte(c)
			if got := Key(string(text)); got != want {
				t.Errorf("Key(%q) = %v", text, got)
			}
		}
		if got := Key(string([]byte{byte(c)})); got != want {
			t.Errorf("Key of the byte %d = %v", c, got)
		}
	}
}

// P8: valid lists.
func TestCheck(t *testing.T) {
	for _, l := range [][]api.Pair{
		nil, {}, pairs("a", "1"), pairs("a", "1", "b", "1"), numbered(40),
		pairs("a", "!\"#$%&'()*+-./09:<>?@AZ[\\]^_`az{|}~"),
		pairs("abcdefghijklmnop", strings.Repeat("x", 1000)),
		pairs("th", "not", "rv", "zz"),
	} {
		if err := Check(l); err != api.OK {
			t.Errorf("Check(%q) = %d", l, err)
		}
	}
}

// P8: what is wrong with a list, in the order in which it is checked.
func TestCheckInvalid(t *testing.T) {
	for _, c := range invalid {
		if err := Check(c.l); err != c.want {
			t.Errorf("%s: Check = %d, want %d", c.name, err, c.want)
		}
	}
}

// P8: of all bytes, those from 33 to 126 but for three are in a value, in any place.
func TestCheckEachByte(t *testing.T) {
	for c := 0; c < 256; c++ {
		want := api.OK
		if c < 33 || c > 126 || c == 44 || c == 59 || c == 61 {
			want = api.ErrForm
		}
		for _, s := range []string{"\x00", "\x00xy", "x\x00y", "xy\x00"} {
			text := []byte(s)
			text[strings.IndexByte(s, 0)] = byte(c)
			if err := Check(pairs("a", string(text))); err != want {
				t.Errorf("Check of the value %q = %d, want %d", text, err, want)
			}
		}
	}
}

var written = []struct {
	s string
	l []api.Pair
}{
	{"", nil},
	{"a=1", pairs("a", "1")},
	{"th=8,x=1", pairs("th", "8", "x", "1")},
	{"x=1,th=8", pairs("x", "1", "th", "8")},
	{"a=1,rv=00000000000009,th=8", pairs("a", "1", "rv", "00000000000009", "th", "8")},
	{"0=a:b/c,z9=~!", pairs("0", "a:b/c", "z9", "~!")},
	{"a=" + strings.Repeat("x", 198), pairs("a", strings.Repeat("x", 198))},
	{"a=1,b=" + strings.Repeat("x", 194), pairs("a", "1", "b", strings.Repeat("x", 194))},
}

// P9: the text form of given lists.
func TestWrite(t *testing.T) {
	for _, c := range written {
		if got, err := Write(c.l); got != c.s || err != api.OK {
			t.Errorf("Write(%q) = %q, %d, want %q, OK", c.l, got, err, c.s)
		}
	}
	if got, err := Write([]api.Pair{}); got != "" || err != api.OK {
		t.Errorf("Write of an empty list = %q, %d", got, err)
	}
}

// P9: the error of Check, then that of a text of more than 200 bytes.
func TestWriteInvalid(t *testing.T) {
	for _, c := range invalid {
		if got, err := Write(c.l); got != "" || err != c.want {
			t.Errorf("%s: Write = %q, %d, want \"\", %d", c.name, got, err, c.want)
		}
	}
	for _, l := range [][]api.Pair{
		pairs("a", strings.Repeat("x", 199)),
		pairs("a", "1", "b", strings.Repeat("x", 195)),
		pairs("a", strings.Repeat("x", 100000)),
		numbered(40), // 10 pairs of 4 bytes, 30 of 5, and 39 commas
	} {
		if got, err := Write(l); got != "" || err != api.ErrLarge {
			t.Errorf("Write(%q) = %q, %d, want \"\", ErrLarge", l, got, err)
		}
	}
	long := strings.Repeat("x", 300)
	if got, err := Write(pairs("a", long, "a", long)); got != "" || err != api.ErrThere {
		t.Errorf("Write of a long list with a key twice = %q, %d, want \"\", ErrThere", got, err)
	}
	if got, err := Write(pairs("a", long, "b", "")); got != "" || err != api.ErrForm {
		t.Errorf("Write of a long list with no value = %q, %d, want \"\", ErrForm", got, err)
	}
}

// shortKeyed makes n pairs with keys of one byte, or of two beyond the first
// 36, so that more than 40 of them have a text of at most 200 bytes.
func shortKeyed(n int) []api.Pair {
	const keys = "abcdefghijklmnopqrstuvwxyz0123456789"
	var l []api.Pair
	for i := 0; i < n; i++ {
		key := keys[i%36 : i%36+1]
		if i >= 36 {
			key = "a" + key
		}
		l = append(l, api.Pair{Key: key, Value: "1"})
	}
	return l
}

// textOf writes the pairs whether they are valid or not.
func textOf(l []api.Pair) string {
	var parts []string
	for _, p := range l {
		parts = append(parts, fmt.Sprintf("%s=%s", p.Key, p.Value))
	}
	return strings.Join(parts, ",")
}

// P9: the pairs of given texts.
func TestRead(t *testing.T) {
	for _, c := range written {
		if got, err := Read(c.s); !slices.Equal(got, c.l) || err != api.OK {
			t.Errorf("Read(%q) = %q, %d, want %q, OK", c.s, got, err, c.l)
		}
	}
	want := shortKeyed(40)
	if got, err := Read(textOf(want)); !slices.Equal(got, want) || err != api.OK {
		t.Errorf("Read of 40 pairs = %q, %d", got, err)
	}
}

// P9: the errors of Read, in the order in which they are checked.
func TestReadInvalid(t *testing.T) {
	many := textOf(shortKeyed(41))
	for _, c := range []struct {
		s    string
		want api.Errno
	}{
		{"a=" + strings.Repeat("x", 199), api.ErrLarge},
		{strings.Repeat("a", 201), api.ErrLarge},
		{strings.Repeat(",", 201), api.ErrLarge},
		{strings.Repeat("a=1,", 10000), api.ErrLarge},
		{"a", api.ErrForm},
		{strings.Repeat("a", 200), api.ErrForm},
		{",", api.ErrForm},
		{strings.Repeat(",", 200), api.ErrForm},
		{"a=1,", api.ErrForm},
		{",a=1", api.ErrForm},
		{"a=1,,b=2", api.ErrForm},
		{"=", api.ErrForm},
		{"=1", api.ErrForm},
		{"a=", api.ErrForm},
		{"a==", api.ErrForm},
		{"a==1", api.ErrForm},
		{"a=1=2", api.ErrForm},
		{"a=1;b=2", api.ErrForm},
		{"a=1, b=2", api.ErrForm},
		{" a=1", api.ErrForm},
		{"a=1 ", api.ErrForm},
		{"a=1\n", api.ErrForm},
		{" ", api.ErrForm},
		{"A=1", api.ErrForm},
		{"a=\xc3\xa9", api.ErrForm},
		{"abcdefghijklmnopq=1", api.ErrForm},
		{"a=1,a=2", api.ErrThere},
		{"a=1,b=2,a=1", api.ErrThere},
		{"a=1,a=2,b=", api.ErrThere},
		{"a=1,a=2,b", api.ErrForm}, // no equals sign: before what Check says
		{many, api.ErrLarge},
		{many + ",a=1", api.ErrLarge},
		{many + ",B=", api.ErrLarge},
		{many + ",b", api.ErrForm}, // no equals sign: before what Check says
	} {
		if got, err := Read(c.s); len(got) != 0 || err != c.want {
			t.Errorf("Read(%q) = %q, %d, want none, %d", c.s, got, err, c.want)
		}
	}
	if n := len(many); n > 190 {
		t.Errorf("the text of 41 pairs has %d bytes", n)
	}
}

// P9: over many short texts, Read accepts just what Write returns.
func TestReadIsWritten(t *testing.T) {
	const letters = "ab1A=,; "
	var text [6]byte
	for i := 0; i < 1<<18; i++ {
		for j := range text {
			text[j] = letters[i>>(3*j)&7]
		}
		s := string(text[:i%7])
		l, err := Read(s)
		if err != api.OK {
			if len(l) != 0 {
				t.Fatalf("Read(%q) = %q, %d", s, l, err)
			}
			continue
		}
		if back, err := Write(l); back != s || err != api.OK {
			t.Fatalf("Read(%q) = %q, and its text is %q, %d", s, l, back, err)
		}
	}
}

// P10: the marks of given lists.
func TestMark(t *testing.T) {
	for _, c := range []struct {
		l    []api.Pair
		want api.Mark
	}{
		{nil, api.Mark{}},
		{[]api.Pair{}, api.Mark{}},
		{pairs("x", "1"), api.Mark{}},
		{pairs("th", "8", "x", "1"), api.Mark{Th: 1 << 55, HasTh: true}},
		{pairs("x", "1", "th", "8"), api.Mark{Th: 1 << 55, HasTh: true}},
		{pairs("th", "0"), api.Mark{HasTh: true}},
		{pairs("rv", "00000000000000"), api.Mark{HasRv: true}},
		{pairs("x", "1", "rv", "00000000000009"), api.Mark{Rv: 9, HasRv: true}},
		{pairs("rv", "80000000000000", "th", "c"), api.Mark{Th: 3 << 54, Rv: 1 << 55, HasTh: true, HasRv: true}},
		{pairs("th", "ffffffffffffff", "a", "b", "rv", "ffffffffffffff"), api.Mark{Th: 1<<56 - 1, Rv: 1<<56 - 1, HasTh: true, HasRv: true}},
		{pairs("th1", "8", "rvx", "8", "t", "8"), api.Mark{}},
	} {
		if got, err := Mark(c.l); got != c.want || err != api.OK {
			t.Errorf("Mark(%q) = %v, %d, want %v, OK", c.l, got, err, c.want)
		}
	}
}

// P10: the error of Check, then those of a threshold or random value that can't be parsed.
func TestMarkInvalid(t *testing.T) {
	for _, c := range invalid {
		if got, err := Mark(c.l); got != (api.Mark{}) || err != c.want {
			t.Errorf("%s: Mark = %v, %d, want none, %d", c.name, got, err, c.want)
		}
	}
	const rv = "00000000000009"
	for _, c := range []struct {
		l    []api.Pair
		want api.Errno
	}{
		{pairs("th", "80"), api.ErrForm},
		{pairs("th", "A"), api.ErrForm},
		{pairs("th", "000000000000001"), api.ErrForm},
		{pairs("th", "80000000000000"), api.ErrForm},
		{pairs("rv", "8"), api.ErrForm},
		{pairs("rv", "000000000000009"), api.ErrForm},
		{pairs("rv", "0000000000000F"), api.ErrForm},
		{pairs("th", "8", "rv", "8"), api.ErrForm},
		{pairs("rv", rv, "th", "00"), api.ErrForm},
		{pairs("rv", "8", "th", "8"), api.ErrForm},
		{pairs("th", "80", "x", "1", "rv", rv), api.ErrForm},
		{pairs("th", "80", "a", "1", "a", "2"), api.ErrThere}, // of Check, so before that of th
	} {
		if got, err := Mark(c.l); got != (api.Mark{}) || err != c.want {
			t.Errorf("Mark(%q) = %v, %d, want none, %d", c.l, got, err, c.want)
		}
	}
}

// P11: the marks of given lists are replaced.
func TestSet(t *testing.T) {
	full := api.Mark{Th: 1 << 55, Rv: 9, HasTh: true, HasRv: true}
	const rv = "00000000000009"
	for _, c := range []struct {
		l    []api.Pair
		m    api.Mark
		want []api.Pair
	}{
		{nil, api.Mark{}, nil},
		{nil, full, pairs("th", "8", "rv", rv)},
		{pairs("b", "2", "a", "1"), api.Mark{}, pairs("b", "2", "a", "1")},
		{pairs("b", "2", "a", "1"), full, pairs("th", "8", "rv", rv, "b", "2", "a", "1")},
		{pairs("a", "1"), api.Mark{HasTh: true}, pairs("th", "0", "a", "1")},
		{pairs("a", "1"), api.Mark{HasRv: true}, pairs("rv", "00000000000000", "a", "1")},
		{pairs("a", "1", "rv", rv, "b", "2", "th", "4", "c", "3"), full, pairs("th", "8", "rv", rv, "a", "1", "b", "2", "c", "3")},
		{pairs("rv", rv, "a", "1", "th", "4"), api.Mark{}, pairs("a", "1")},
		{pairs("rv", rv, "a", "1", "th", "4"), api.Mark{HasTh: true}, pairs("th", "0", "a", "1")},
		{pairs("rv", rv, "a", "1", "th", "4"), api.Mark{HasRv: true}, pairs("rv", "00000000000000", "a", "1")},
		{pairs("th", "4"), api.Mark{}, nil},
		// A number that is not present is not written, but one that is 0 is.
		{pairs("a", "1"), api.Mark{Th: 1 << 55, Rv: 9}, pairs("a", "1")},
		{pairs("a", "1"), api.Mark{Th: 1 << 55, Rv: 9, HasRv: true}, pairs("rv", rv, "a", "1")},
		{nil, api.Mark{Th: 1<<56 - 1, Rv: 1<<56 - 1, HasTh: true, HasRv: true}, pairs("th", "ffffffffffffff", "rv", "ffffffffffffff")},
		// What is replaced need not be a number.
		{pairs("th", "zz", "rv", "zz"), full, pairs("th", "8", "rv", rv)},
		{pairs("th1", "8", "rvx", "8"), full, pairs("th", "8", "rv", rv, "th1", "8", "rvx", "8")},
	} {
		if got, err := Set(c.l, c.m); !slices.Equal(got, c.want) || err != api.OK {
			t.Errorf("Set(%q, %v) = %q, %d, want %q, OK", c.l, c.m, got, err, c.want)
		}
	}
}

// P11: the error of Check, then that of numbers out of range, then that of more than 40 pairs.
func TestSetInvalid(t *testing.T) {
	for _, c := range invalid {
		for _, m := range []api.Mark{{}, {Th: -1, HasTh: true}, {HasTh: true, HasRv: true}} {
			if got, err := Set(c.l, m); len(got) != 0 || err != c.want {
				t.Errorf("%s: Set with %v = %q, %d, want none, %d", c.name, m, got, err, c.want)
			}
		}
	}
	for _, n := range []int{-1, 1 << 56, math.MaxInt, math.MinInt} {
		for _, has := range []bool{false, true} {
			for _, l := range [][]api.Pair{nil, pairs("th", "8"), numbered(40)} {
				for _, m := range []api.Mark{
					{Th: n, HasTh: has, HasRv: has}, {Rv: n, HasTh: has, HasRv: has},
					{Th: n, HasRv: has}, {Rv: n, HasTh: has},
				} {
					if got, err := Set(l, m); len(got) != 0 || err != api.ErrArg {
						t.Errorf("Set of %d pairs with %v = %q, %d, want none, ErrArg", len(l), m, got, err)
					}
				}
			}
		}
	}
}

// P11: at most 40 pairs, counted without those that are replaced.
func TestSetLarge(t *testing.T) {
	th, rv, both := api.Mark{HasTh: true}, api.Mark{HasRv: true}, api.Mark{HasTh: true, HasRv: true}
	withTh := append(numbered(39), api.Pair{Key: "th", Value: "8"})
	withBoth := append(numbered(38), pairs("th", "8", "rv", "1")...)
	for _, c := range []struct {
		l    []api.Pair
		m    api.Mark
		want int // how many pairs, or 0 if they are too many
	}{
		{numbered(40), api.Mark{}, 40},
		{numbered(40), th, 0},
		{numbered(40), rv, 0},
		{numbered(40), both, 0},
		{numbered(39), th, 40},
		{numbered(39), rv, 40},
		{numbered(39), both, 0},
		{numbered(38), both, 40},
		{withTh, api.Mark{}, 39},
		{withTh, th, 40},
		{withTh, rv, 40},
		{withTh, both, 0},
		{withBoth, both, 40},
	} {
		want := api.OK
		if c.want == 0 {
			want = api.ErrLarge
		}
		if got, err := Set(c.l, c.m); len(got) != c.want || err != want {
			t.Errorf("Set of %d pairs with %v: %d pairs, %d, want %d, %d", len(c.l), c.m, len(got), err, c.want, want)
		}
	}
}

// P10, P11: Mark returns what Set has set.
func TestSetThenMark(t *testing.T) {
	x := uint64(1)
	for i := 0; i < 2000; i++ {
		m := api.Mark{HasTh: i&1 > 0, HasRv: i&2 > 0}
		for _, n := range []struct {
			has bool
			to  *int
		}{{m.HasTh, &m.Th}, {m.HasRv, &m.Rv}} {
			x = x*6364136223846793005 + 1442695040888963407
			if n.has {
				*n.to = int(x>>8) >> (i % 57) << (i % 57)
			}
		}
		l, err := Set(pairs("a", "1", "th", "4", "rv", "x"), m)
		if err != api.OK {
			t.Fatalf("Set with %v: error %d", m, err)
		}
		if got, err := Mark(l); got != m || err != api.OK {
			t.Fatalf("Mark(%q) = %v, %d, want %v", l, got, err, m)
		}
	}
}

// P1: no function panics, and with an error the other results are zero values.
func TestAnything(t *testing.T) {
	texts := []string{"", "a", "b", "th", "rv", "8", "0", "=", ",", "\x00", "\xff\xfe", "00000000000009", strings.Repeat("a", 250)}
	var lists [][]api.Pair
	for _, k := range texts {
		for _, v := range texts {
			lists = append(lists, pairs(k, v), pairs("th", "8", k, v), pairs(k, v, v, k), slices.Repeat(pairs(k, v), 41))
		}
	}
	for _, l := range lists {
		want := Check(l)
		if s, err := Write(l); err != api.OK && s != "" || want != api.OK && err != want {
			t.Errorf("Write(%q) = %q, %d; Check = %d", l, s, err, want)
		}
		if m, err := Mark(l); err != api.OK && m != (api.Mark{}) || want != api.OK && err != want {
			t.Errorf("Mark(%q) = %v, %d; Check = %d", l, m, err, want)
		}
		for _, m := range []api.Mark{{}, {Th: -1}, {Rv: api.All, HasRv: true}, {HasTh: true, HasRv: true}} {
			if s, err := Set(l, m); err != api.OK && len(s) != 0 || want != api.OK && err != want {
				t.Errorf("Set(%q, %v) = %q, %d; Check = %d", l, m, s, err, want)
			}
		}
		if r, err := Read(textOf(l)); err != api.OK && len(r) != 0 {
			t.Errorf("Read(%q) = %q, %d", textOf(l), r, err)
		}
	}
}

// P2: arguments are not modified, nor is the spare capacity behind them.
func TestArgumentsKept(t *testing.T) {
	backing := append(pairs("a", "1", "rv", "00000000000009", "th", "8", "b", "2"), make([]api.Pair, 8)...)
	for i := 4; i < len(backing); i++ {
		backing[i] = api.Pair{Key: "spare", Value: strconv.Itoa(i)}
	}
	before := slices.Clone(backing)
	l := backing[:4]
	for _, m := range []api.Mark{{}, {HasTh: true}, {HasRv: true}, {HasTh: true, HasRv: true}} {
		Check(l)
		Write(l)
		Mark(l)
		Set(l, m)
		if !slices.Equal(backing, before) {
			t.Fatalf("after calls with %v the argument is %q, was %q", m, backing, before)
		}
	}
}

// overwrite fills a list, spare capacity included.
func overwrite(l []api.Pair) {
	l = l[:cap(l)]
	for i := range l {
		l[i] = api.Pair{Key: "over", Value: "written"}
	}
}

// P2: results are new memory, shared neither with arguments nor with other results.
func TestResultsNew(t *testing.T) {
	l := make([]api.Pair, 0, 16)
	l = append(l, pairs("a", "1", "b", "2")...)
	before := slices.Clone(l[:cap(l)])
	for _, m := range []api.Mark{{}, {HasTh: true}, {HasTh: true, HasRv: true}} {
		first, _ := Set(l, m)
		want := slices.Clone(first)
		second, _ := Set(l, m)
		overwrite(second)
		if !slices.Equal(l[:cap(l)], before) || !slices.Equal(first, want) {
			t.Errorf("Set with %v shares its result: argument %q, other result %q", m, l, first)
		}
	}
	first, _ := Read("a=1,b=2,c=3")
	second, _ := Read("a=1,b=2,c=3")
	overwrite(second)
	if third, _ := Read("a=1,b=2,c=3"); !slices.Equal(first, third) || textOf(third) != "a=1,b=2,c=3" {
		t.Errorf("Read shares its result: %q, %q", first, third)
	}
}

// P2: keys of an earlier call are not remembered.
func TestNoState(t *testing.T) {
	for i := 0; i < 3; i++ {
		if err := Check(pairs("a", "1")); err != api.OK {
			t.Errorf("call %d: Check = %d", i, err)
		}
		if err := Check(pairs("a", "1", "a", "1")); err != api.ErrThere {
			t.Errorf("call %d: Check of a key twice = %d", i, err)
		}
	}
}
