package stamp_test

import (
	"math/big"
	"strings"
	"testing"

	"marchland/api"
	"marchland/stamp"
)

// edges are where the sum, or its text, turns into something else.
var edges = []uint64{
	0, 1, 2, 3, 9, 10, 11, 99, 100, 1<<31 - 1, 1 << 31, 1<<32 - 1, 1 << 32, 1<<32 + 1,
	1<<53 + 1, 1<<59 - 1, 1 << 59, 1<<63 - 2, 1<<63 - 1, 1 << 63, 1<<63 + 1,
	9999999999999999999, 10000000000000000000,
	api.Never - 10, api.Never - 3, api.Never - 2, api.Never - 1, api.Never,
}

// plus reckons without any bound, and cuts at the end.
func plus(t, s uint64) uint64 {
	if t == api.Never || s == api.Never {
		return api.Never
	}
	sum := new(big.Int).Add(new(big.Int).SetUint64(t), new(big.Int).SetUint64(s))
	if sum.Cmp(new(big.Int).SetUint64(api.Never)) >= 0 {
		return api.Never
	}
	return sum.Uint64()
}

// P1.1
func TestPlus(t *testing.T) {
	for _, c := range []struct{ t, s, want uint64 }{
		{0, 0, 0},
		{3, 4, 7},
		{0, api.Never - 1, api.Never - 1},
		{1<<63 - 1, 1 << 63, api.Never}, // their sum is Never's own number
		{1<<63 - 1, 1<<63 - 1, api.Never - 1},
		{1 << 63, 1 << 63, api.Never}, // this one would wrap to 0
		{api.Never - 2, 1, api.Never - 1},
		{api.Never - 2, 2, api.Never},
		{api.Never - 2, 3, api.Never},
		{api.Never - 1, 0, api.Never - 1},
		{api.Never - 1, 1, api.Never},
		{api.Never - 1, api.Never - 1, api.Never},
		{api.Never, 0, api.Never},
		{0, api.Never, api.Never},
		{api.Never, 1, api.Never},
		{1, api.Never, api.Never},
		{api.Never, api.Never, api.Never},
	} {
		if got := stamp.Plus(c.t, c.s); got != c.want {
			t.Errorf("Plus(%d, %d) = %d, want %d", c.t, c.s, got, c.want)
		}
	}
	for _, a := range edges {
		for _, b := range edges {
			if got := stamp.Plus(a, b); got != plus(a, b) {
				t.Errorf("Plus(%d, %d) = %d, want %d", a, b, got, plus(a, b))
			}
		}
	}
}

// P1.1
func TestReaches(t *testing.T) {
	for _, c := range []struct {
		t, s, u uint64
		want    bool
	}{
		{0, 0, 0, true},
		{2, 3, 5, true},
		{2, 3, 4, false},
		{2, 3, 6, true},
		{5, 0, 5, true},
		{5, 0, 4, false},
		{api.Never, 0, api.Never, false},
		{0, api.Never, api.Never, false},
		{api.Never - 1, 1, api.Never, false},
		{1 << 63, 1 << 63, api.Never, false}, // a sum that wraps would be 0
		{1 << 63, 1 << 63, 0, false},
		{1<<63 + 1, 1 << 63, 5, false},
		{api.Never - 1, 0, api.Never - 1, true},
		{api.Never - 1, 0, api.Never, true}, // a time is below Never
		{api.Never - 2, 1, api.Never - 1, true},
		{api.Never - 2, 1, api.Never - 2, false},
		{0, 0, api.Never, true},
	} {
		if got := stamp.Reaches(c.t, c.s, c.u); got != c.want {
			t.Errorf("Reaches(%d, %d, %d) = %v", c.t, c.s, c.u, got)
		}
	}
	for _, a := range edges {
		for _, b := range edges {
			for _, u := range edges {
				p := plus(a, b)
				if got := stamp.Reaches(a, b, u); got != (p != api.Never && p <= u) {
					t.Errorf("Reaches(%d, %d, %d) = %v", a, b, u, got)
				}
			}
		}
	}
}

// P1.2
func TestPlusGoesInAnyOrderAndNeverBack(t *testing.T) {
	for _, a := range edges {
		for _, b := range edges {
			sum := stamp.Plus(a, b)
			if sum < a || sum < b {
				t.Errorf("Plus(%d, %d) = %d goes back", a, b, sum)
			}
			if sum != stamp.Plus(b, a) {
				t.Errorf("Plus of %d and %d isn't the same the other way round", a, b)
			}
			for _, c := range edges {
				if stamp.Plus(sum, c) != stamp.Plus(a, stamp.Plus(b, c)) {
					t.Errorf("Plus of %d, %d, %d hangs on the order", a, b, c)
				}
				if b <= c && sum > stamp.Plus(a, c) {
					t.Errorf("Plus(%d, %d) is above Plus(%d, %d)", a, b, a, c)
				}
			}
		}
	}
}

// P1.1
func TestText(t *testing.T) {
	for _, c := range []struct {
		t    uint64
		want string
	}{
		{0, "0"}, {1, "1"}, {9, "9"}, {10, "10"}, {100, "100"}, {1 << 32, "4294967296"},
		{1<<63 - 1, "9223372036854775807"}, {1 << 63, "9223372036854775808"},
		{api.Never - 1, "18446744073709551614"}, {api.Never, "never"},
	} {
		if got := stamp.Text(c.t); got != c.want {
			t.Errorf("Text(%d) = %q, want %q", c.t, got, c.want)
		}
	}
	for _, n := range edges {
		want := new(big.Int).SetUint64(n).String()
		if n == api.Never {
			want = "never"
		}
		if got := stamp.Text(n); got != want {
			t.Errorf("Text(%d) = %q", n, got)
		}
	}
}

// P1.1
func TestParseRefuses(t *testing.T) {
	wrong := []string{
		"", " ", "00", "01", "007", "000", "0never", "-0", "-1", "+0", "+1", "+", "-", "1 ", " 1", "1\n", "\t1", "1 2",
		"18446744073709551615", "18446744073709551616", "18446744073709551617", "018446744073709551614",
		"18446744073709551620", "99999999999999999999", "184467440737095516140", "36893488147419103232",
		"100000000000000000000", "340282366920938463463374607431768211456", strings.Repeat("9", 1000),
		"Never", "NEVER", "never ", " never", "neve", "nevers", "never0", "-never", "nevernever",
		"0x10", "0b1", "0o7", "1_000", "1e3", "1.0", "1.", ".1", "1,0", "a", "ff", "inf", "nan",
		"\x00", "0\x00", "\xff", "\u0661", "\uff11", "1\u0660", "½",
		strings.Repeat("0", 1<<16), strings.Repeat("1", 1<<16), "0" + strings.Repeat("0", 19) + "1",
	}
	for _, s := range wrong {
		n, e := stamp.Parse(s)
		if e != api.ErrWord {
			t.Errorf("Parse(%.40q) is %v, want word", s, e)
		}
		if n != 0 {
			t.Errorf("Parse(%.40q) = %d beside an error", s, n)
		}
	}
}

// P1.3
func TestTextAndParseUndoEachOther(t *testing.T) {
	for _, n := range edges {
		if got, e := stamp.Parse(stamp.Text(n)); got != n || e != api.OK {
			t.Errorf("Parse(Text(%d)) = %d, %v", n, got, e)
		}
	}
	for bit := range 64 {
		for _, n := range []uint64{1<<bit - 1, 1 << bit, 1<<bit + 1} {
			if got, e := stamp.Parse(stamp.Text(n)); got != n || e != api.OK {
				t.Errorf("Parse(Text(%d)) = %d, %v", n, got, e)
			}
		}
	}
	for _, s := range []string{"0", "1", "7", "10", "100", "1000000", "9223372036854775808", "10000000000000000000", "18446744073709551609", "18446744073709551614", "never"} {
		n, e := stamp.Parse(s)
		if e != api.OK || stamp.Text(n) != s {
			t.Errorf("Text(Parse(%q)) = %q, %v", s, stamp.Text(n), e)
		}
	}
}

// P1.3, P1: any text is refused, or is the Text of what it says.
func TestParseOfAnyShortText(t *testing.T) {
	signs := []byte("0129-+ never_.\x00\xff")
	for _, a := range signs {
		for _, b := range signs {
			for _, c := range signs {
				for _, s := range []string{string([]byte{a}), string([]byte{a, b}), string([]byte{a, b, c}), "1844674407370955161" + string([]byte{a, b})} {
					n, e := stamp.Parse(s)
					if e == api.OK && stamp.Text(n) != s || e != api.OK && (e != api.ErrWord || n != 0) {
						t.Errorf("Parse(%q) = %d, %v", s, n, e)
					}
				}
			}
		}
	}
}
