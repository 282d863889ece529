package pick_test

import (
	"math"
	"math/big"
	"slices"
	"testing"

	"marchland/pick"
)

// dice is a row of numbers that is the same each time.
type dice uint64

func (d *dice) roll(n int) int {
	*d = *d*6364136223846793005 + 1442695040888963407
	return int(uint64(*d)>>33) % n
}

// P10.1
func TestWho(t *testing.T) {
	for _, c := range []struct{ pick, many, want int }{
		{0, 1, 0},
		{7, 1, 0},
		{0, 3, 0},
		{1, 3, 1},
		{2, 3, 2},
		{3, 3, 0},
		{7, 3, 1},
		{255, 9, 3},
		{5, math.MaxInt, 5},
		{math.MaxInt, math.MaxInt, 0},
		{math.MaxInt, 10, 7},
		{math.MaxInt, 1, 0},
		// Without a sign: -1 is 2^64 - 1.
		{-1, 1, 0},
		{-1, 2, 1},
		{-1, 3, 0},
		{-2, 3, 2},
		{-1, 10, 5},
		{-1, 7, 1},
		{-1, math.MaxInt, 1},
		{math.MinInt, 3, 2},
		{math.MinInt, 10, 8},
		{math.MinInt, math.MaxInt, 1},
		// There is nobody.
		{0, 0, -1},
		{5, 0, -1},
		{-1, 0, -1},
		{5, -1, -1},
		{-5, -3, -1},
		{5, math.MinInt, -1},
	} {
		if got := pick.Who(c.pick, c.many); got != c.want {
			t.Errorf("Who(%d, %d) = %d, want %d", c.pick, c.many, got, c.want)
		}
	}
}

// P10.1
func TestWhoAgainstPlainNumbers(t *testing.T) {
	d := dice(1)
	picks := []int{math.MinInt, math.MinInt + 1, -1 << 32, -100, -2, -1, 0, 1, 2, 99, 1 << 32, math.MaxInt - 1, math.MaxInt}
	for range 5000 {
		p := picks[d.roll(len(picks))] + d.roll(1000)
		many := 1 + d.roll(1000)
		n := new(big.Int).Mod(big.NewInt(int64(p)), new(big.Int).Lsh(big.NewInt(1), 64))
		if want := int(n.Mod(n, big.NewInt(int64(many))).Int64()); pick.Who(p, many) != want {
			t.Fatalf("Who(%d, %d) = %d, want %d", p, many, pick.Who(p, many), want)
		}
	}
}

// P10.1
func TestTurns(t *testing.T) {
	for _, c := range []struct {
		many, count int
		want        []int
	}{
		{3, 7, []int{0, 1, 2, 0, 1, 2, 0}},
		{3, 6, []int{0, 1, 2, 0, 1, 2}},
		{3, 3, []int{0, 1, 2}},
		{3, 2, []int{0, 1}},
		{3, 1, []int{0}},
		{1, 4, []int{0, 0, 0, 0}},
		{2, 5, []int{0, 1, 0, 1, 0}},
		{1, 1, []int{0}},
		{math.MaxInt, 3, []int{0, 1, 2}},
		{3, 0, nil},
		{3, -1, nil},
		{3, math.MinInt, nil},
		{0, 5, nil},
		{-1, 5, nil},
		{math.MinInt, 5, nil},
		{0, 0, nil},
		{-1, -1, nil},
		{0, math.MaxInt, nil},
	} {
		if got := pick.Turns(c.many, c.count); !slices.Equal(got, c.want) {
			t.Errorf("Turns(%d, %d) = %v, want %v", c.many, c.count, got, c.want)
		}
	}
	if l := pick.Turns(9, 1000000); len(l) != 1000000 || l[999999] != 999999%9 {
		t.Error("many of them")
	}
}

// P1: a count beyond all that is promised ends, too.
func TestTurnsBeyondAllBounds(t *testing.T) {
	for _, count := range []int{1 << 31, 1 << 40, 1 << 60, math.MaxInt} {
		for _, many := range []int{1, 3, math.MaxInt} {
			if got := pick.Turns(many, count); len(got) != 0 {
				t.Errorf("Turns(%d, %d): %d", many, count, len(got))
			}
		}
	}
}

// P10.1: each number of Turns is its own Who, and Turns are Fair of a window of many.
func TestTurnsAreFair(t *testing.T) {
	for many := 1; many < 9; many++ {
		for count := range 30 {
			l := pick.Turns(many, count)
			for i, p := range l {
				if pick.Who(p, many) != p || p != i%many {
					t.Errorf("Turns(%d, %d): %v", many, count, l)
				}
			}
			if !pick.Fair(l, many, many) || many > 1 && count >= many && pick.Fair(l, many, many-1) {
				t.Errorf("Turns(%d, %d) aren't Fair of just %d", many, count, many)
			}
		}
	}
}

// P10.1
func TestFair(t *testing.T) {
	l := []int{0, 1, 0, 2, 1} // the document's example
	for _, c := range []struct {
		name         string
		l            []int
		many, window int
		want         bool
	}{
		{"the example", l, 3, 4, true},
		{"the example", l, 3, 3, false},
		{"all of it", l, 3, 5, true},
		{"fewer picks than that", l, 3, 6, true},
		{"fewer picks than that", l, 9, 6, true},
		{"fewer picks than that", l, math.MaxInt, math.MaxInt, true},
		{"more than picks", l, 4, 5, false},
		{"more than picks", l, 9, 5, false},
		{"more than any", l, math.MaxInt, 5, false},
		{"more than any", l, math.MaxInt, 1, false},
		{"a window below 1", l, 3, 0, false},
		{"a window below 1", l, 3, -1, false},
		{"a window below 1", l, 3, math.MinInt, false},
		{"a window below 1", l, 0, 0, false},
		{"a window below 1", l, -1, -1, false},
		{"a window below 1", nil, 3, 0, false},
		{"a window below 1", nil, 0, 0, false},
		{"a window below 1", nil, 1, -5, false},
		{"nobody", l, 0, 1, true},
		{"nobody", l, -1, 1, true},
		{"nobody", l, math.MinInt, 3, true},
		{"nobody", l, 0, 100, true},
		{"nobody", nil, 0, 1, true},
		{"nothing", nil, 3, 1, true},
		{"nothing", []int{}, 3, 1, true},
		{"one", l, 1, 1, true},
		{"two in turn", []int{0, 1, 0, 1}, 2, 2, true},
		{"two in turn, of one", []int{0, 1, 0, 1}, 2, 1, false},
		{"late at first", []int{1, 1, 1, 0, 1}, 2, 3, false},
		{"late at first", []int{1, 1, 1, 0, 1}, 2, 4, true},
		{"late at the end", []int{1, 0, 1, 1, 1}, 2, 3, false},
		{"late at the end", []int{1, 0, 1, 1, 1}, 2, 4, true},
		{"late between", []int{0, 1, 1, 1, 0}, 2, 3, false},
		{"late between", []int{0, 1, 1, 1, 0}, 2, 4, true},
		{"one never", []int{0, 0, 0, 0}, 2, 4, false},
		{"one never, but too few", []int{0, 0, 0}, 2, 4, true},
		// By Who.
		{"beyond many", []int{3, 7, 6, 5, 10}, 3, 4, true},
		{"beyond many", []int{3, 7, 6, 5, 10}, 3, 3, false},
		{"below 0", []int{-1, -2, -3, -1, -2}, 3, 3, true}, // 0, 2, 1, 0, 2
		{"below 0", []int{-1, -1, -3}, 3, 3, false},
		{"below 0", []int{-1, math.MinInt, 1}, 3, 3, true}, // 0, 2, 1
	} {
		if got := pick.Fair(c.l, c.many, c.window); got != c.want {
			t.Errorf("%s: Fair(%v, %d, %d) = %v", c.name, c.l, c.many, c.window, got)
		}
	}
}

// fair goes through all windows, and through each of the many in each.
func fair(l []int, many, window int) bool {
	if window < 1 {
		return false
	}
	for i := 0; i+window <= len(l); i++ {
		for who := range many {
			if !slices.ContainsFunc(l[i:i+window], func(p int) bool { return pick.Who(p, many) == who }) {
				return false
			}
		}
	}
	return true
}

// P10.1, P10.2
func TestFairAgainstPlainWords(t *testing.T) {
	d := dice(2)
	said := map[bool]int{}
	for range 20000 {
		many := d.roll(6) - 1
		l := make([]int, d.roll(14))
		for i := range l {
			l[i] = i + d.roll(3) - 1
			if d.roll(8) == 0 {
				l[i] = -d.roll(100)
			}
		}
		was := false
		for window := -2; window < 17; window++ {
			got := pick.Fair(l, many, window)
			if want := fair(l, many, window); got != want {
				t.Fatalf("Fair(%v, %d, %d) = %v", l, many, window, got)
			}
			if was && !got {
				t.Fatalf("Fair(%v, %d, %d), but not of %d", l, many, window-1, window)
			}
			was = got
			if window > 0 && window <= len(l) {
				said[got]++
			}
		}
	}
	if said[true] < 10000 || said[false] < 10000 {
		t.Errorf("not all of it was asked: %v", said)
	}
}

// P1: long lists, of many, end.
func TestFairOfMany(t *testing.T) {
	l := pick.Turns(1000, 1000000)
	if !pick.Fair(l, 1000, 1000) || pick.Fair(l, 1000, 999) || !pick.Fair(l, 500, 1000) || pick.Fair(l, 1001, 999999) || pick.Fair(l, 1000001, 1000000) {
		t.Error("in turn")
	}
	l[500500] = 0
	if pick.Fair(l, 1000, 1000) || pick.Fair(l, 1000, 1999) || !pick.Fair(l, 1000, 2000) || !pick.Fair(l, 1000, 1000001) {
		t.Error("but one")
	}
}

// P10.3
func TestNothingIsKept(t *testing.T) {
	full := []int{0, 5, -1, 2, 1, 77, 78}
	kept := slices.Clone(full)
	for window := -1; window < 8; window++ {
		pick.Fair(full[:5], 3, window)
	}
	if !slices.Equal(full, kept) {
		t.Error("what was handed in is changed")
	}
	a, b := pick.Turns(3, 5), pick.Turns(3, 5)
	for i := range a[:cap(a)] {
		a[:cap(a)][i] = 44
	}
	if !slices.Equal(b, []int{0, 1, 2, 0, 1}) || !slices.Equal(pick.Turns(3, 5), b) {
		t.Error("answers share")
	}
}
