package bag_test

import (
	"math"
	"math/big"
	"slices"
	"testing"

	"marchland/api"
	"marchland/bag"
	"marchland/batch"
)

type change = batch.Change

const most = int64(api.MaxCount)

// ch is a Change in short.
func ch(port int, time uint64, diff int64) change {
	return change{Port: port, Time: time, Diff: diff}
}

// dice is a row of numbers that is the same each time.
type dice uint64

func (d *dice) roll(n int) int {
	*d = *d*6364136223846793005 + 1442695040888963407
	return int(uint64(*d)>>33) % n
}

// batch makes one that is Right, with few ports and times, so that many meet.
func (d *dice) batch(diffs []int64) batch.Batch {
	var b batch.Batch
	for _, port := range []int{0, 1, 62, 63} {
		for _, time := range []uint64{0, 1, 1 << 32, 1<<63 - 1, 1 << 63, api.Never - 1} {
			if d.roll(3) == 0 {
				b = append(b, ch(port, time, diffs[d.roll(len(diffs))]))
			}
		}
	}
	return b
}

func (d *dice) bag() bag.Bag {
	return d.batch([]int64{1, 1, 2, 3, 1000, most / 2, most - 1, most})
}

// apply reckons without any bound, and looks at the counts behind that.
func apply(b bag.Bag, c batch.Batch) (bag.Bag, api.Errno) {
	type key struct {
		port int
		time uint64
	}
	by := map[key]*big.Int{}
	for _, x := range slices.Concat(b, c) {
		k := key{x.Port, x.Time}
		if by[k] == nil {
			by[k] = new(big.Int)
		}
		by[k].Add(by[k], big.NewInt(x.Diff))
	}
	var then bag.Bag
	below, above := false, false
	for k, n := range by {
		below = below || n.Sign() < 0
		above = above || n.Cmp(big.NewInt(most)) > 0
		if n.Sign() != 0 {
			then = append(then, ch(k.port, k.time, n.Int64()))
		}
	}
	switch {
	case below:
		return nil, api.ErrState
	case above:
		return nil, api.ErrOver
	}
	slices.SortFunc(then, func(x, y change) int {
		if x.Port != y.Port {
			return x.Port - y.Port
		}
		if x.Time < y.Time {
			return -1
		}
		return 1
	})
	return then, api.OK
}

// roomy is a copy of l with something in its spare room; whole tells whether all of it is as it was.
func roomy(l []change) (copied []change, whole func() bool) {
	full := append(append(slices.Clone(l), ch(11, 11, 11)), ch(12, 12, 12))
	kept := slices.Clone(full)
	return full[:len(l)], func() bool { return slices.Equal(full, kept) }
}

// spoil overwrites a list, its spare room too.
func spoil(b []change) {
	b = b[:cap(b)]
	for i := range b {
		b[i] = ch(44, 44, 44)
	}
}

// ask holds Apply against what it should answer, and what it was given against what it was.
func ask(t *testing.T, b bag.Bag, c batch.Batch, want bag.Bag, wantE api.Errno) {
	t.Helper()
	given, wholeB := roomy(b)
	by, wholeC := roomy(c)
	got, e := bag.Apply(given, by)
	if e != wantE || !slices.Equal(got, want) {
		t.Errorf("Apply(%v, %v) = %v, %v, want %v, %v", b, c, got, e, want, wantE)
	}
	if !bag.Right(got) {
		t.Errorf("Apply(%v, %v) = %v isn't Right", b, c, got)
	}
	if !wholeB() || !wholeC() {
		t.Errorf("Apply changed %v or %v", b, c)
	}
}

// P4.1
func TestRight(t *testing.T) {
	for _, b := range []bag.Bag{
		nil,
		{},
		{ch(0, 0, 1)},
		{ch(63, api.Never-1, most)},
		{ch(0, 5, 1), ch(0, 6, 1)},
		{ch(0, 9, 2), ch(1, 5, 1)},
		{ch(0, 1, 1), ch(0, 1<<63, 1), ch(0, api.Never-1, 1)}, // times have no sign
	} {
		if !bag.Right(b) {
			t.Errorf("%v is Right", b)
		}
	}
	for _, x := range []change{
		ch(4, 5, 0), ch(4, 5, -1), ch(4, 5, -most), ch(4, 5, -most-1), ch(4, 5, most+1), ch(4, 5, math.MaxInt64), ch(4, 5, math.MinInt64),
		ch(-1, 5, 1), ch(64, 5, 1), ch(math.MinInt, 5, 1), ch(math.MaxInt, 5, 1), ch(4, api.Never, 1),
	} {
		for _, b := range []bag.Bag{{x}, {ch(3, 0, 1), x}, {x, ch(5, 0, 1)}, {ch(3, 0, 1), x, ch(5, 0, 1)}} {
			if bag.Right(b) {
				t.Errorf("%v isn't Right", b)
			}
		}
	}
	for _, b := range []bag.Bag{
		{ch(0, 5, 1), ch(0, 5, 1)},
		{ch(0, 6, 1), ch(0, 5, 1)},
		{ch(1, 5, 1), ch(0, 5, 1)},
		{ch(1, 5, 1), ch(0, 9, 1)},
		{ch(0, 1<<63, 1), ch(0, 1, 1)},
		{ch(0, 1, 1), ch(0, 3, 1), ch(0, 2, 1)},
	} {
		if bag.Right(b) {
			t.Errorf("%v isn't Right", b)
		}
	}
}

// P4.1: the document's example.
func TestExample(t *testing.T) {
	b := bag.Bag{ch(1, 5, 2), ch(1, 9, 1)}
	c, e := bag.Apply(b, batch.Batch{ch(1, 5, -2)})
	if e != api.OK || bag.Least(b, 1) != 5 || bag.Least(c, 1) != 9 {
		t.Error(c, e)
	}
}

// P4.1
func TestApply(t *testing.T) {
	b := bag.Bag{ch(1, 5, 2), ch(1, 9, 1)}
	for _, c := range []struct {
		b    bag.Bag
		c    batch.Batch
		want bag.Bag
	}{
		{nil, nil, nil},
		{bag.Bag{}, nil, nil},
		{nil, batch.Batch{}, nil},
		{b, nil, b},
		{b, batch.Batch{}, b},
		{nil, batch.Batch{ch(1, 5, 2), ch(1, 9, 1)}, b},
		{b, batch.Batch{ch(1, 5, 1)}, bag.Bag{ch(1, 5, 3), ch(1, 9, 1)}},
		{b, batch.Batch{ch(1, 5, -1)}, bag.Bag{ch(1, 5, 1), ch(1, 9, 1)}},
		{b, batch.Batch{ch(1, 5, -2)}, bag.Bag{ch(1, 9, 1)}},
		{b, batch.Batch{ch(1, 9, -1)}, bag.Bag{ch(1, 5, 2)}},
		{b, batch.Batch{ch(1, 5, -2), ch(1, 9, -1)}, nil},
		{b, batch.Batch{ch(1, 5, -2), ch(1, 7, 2)}, bag.Bag{ch(1, 7, 2), ch(1, 9, 1)}},
		{b, batch.Batch{ch(0, 9, 1), ch(1, 4, 1), ch(1, 6, 1), ch(1, 10, 1), ch(2, 5, 1)},
			bag.Bag{ch(0, 9, 1), ch(1, 4, 1), ch(1, 5, 2), ch(1, 6, 1), ch(1, 9, 1), ch(1, 10, 1), ch(2, 5, 1)}},
		{bag.Bag{ch(0, 1<<63, 1)}, batch.Batch{ch(0, 1, 1)}, bag.Bag{ch(0, 1, 1), ch(0, 1<<63, 1)}},
		{bag.Bag{ch(63, api.Never-1, 1)}, batch.Batch{ch(0, 0, 1)}, bag.Bag{ch(0, 0, 1), ch(63, api.Never-1, 1)}},
	} {
		ask(t, c.b, c.c, c.want, api.OK)
	}
}

// P4.1: counts that come to 0, to -1, to 2^59 and to one beyond.
func TestApplyAtTheLimits(t *testing.T) {
	for _, c := range []struct {
		there, diff, want int64
		e                 api.Errno
	}{
		{0, -1, 0, api.ErrState},
		{0, -most, 0, api.ErrState},
		{0, 1, 1, api.OK},
		{0, most, most, api.OK},
		{1, -1, 0, api.OK},
		{1, -2, 0, api.ErrState},
		{1, -most, 0, api.ErrState},
		{1, most - 1, most, api.OK},
		{1, most, 0, api.ErrOver},
		{7, -7, 0, api.OK},
		{7, -8, 0, api.ErrState},
		{most - 1, 1, most, api.OK},
		{most - 1, 2, 0, api.ErrOver},
		{most - 1, -most, 0, api.ErrState},
		{most, 1, 0, api.ErrOver},
		{most, most, 0, api.ErrOver},
		{most, -1, most - 1, api.OK},
		{most, -most, 0, api.OK},
	} {
		var b, want bag.Bag
		if c.there != 0 {
			b = bag.Bag{ch(4, 5, c.there)}
		}
		if c.want != 0 {
			want = bag.Bag{ch(4, 5, c.want)}
		}
		ask(t, b, batch.Batch{ch(4, 5, c.diff)}, want, c.e)
		// What else is there has nothing to do with it, if it may be.
		around := func(b bag.Bag) bag.Bag {
			return slices.Concat(bag.Bag{ch(4, 4, most)}, b, bag.Bag{ch(4, 6, 1), ch(5, 5, 1)})
		}
		if c.e == api.OK {
			want = around(want)
		}
		ask(t, around(b), batch.Batch{ch(4, 5, c.diff)}, want, c.e)
	}
}

// P4.1: less of a time than there is, beside more of the same port, and of the same time.
func TestApplyCountsEachPortAndTime(t *testing.T) {
	b := bag.Bag{ch(1, 5, 3), ch(1, 9, 3), ch(2, 5, 3)}
	for _, x := range []change{ch(0, 5, -1), ch(1, 4, -1), ch(1, 6, -1), ch(1, 10, -1), ch(2, 9, -1), ch(3, 5, -1), ch(1, 5, -4), ch(1, 9, -4), ch(2, 5, -4)} {
		ask(t, b, batch.Batch{x}, nil, api.ErrState)
	}
}

// P4.1: all of it, or nothing; a count below 0 goes ahead of one that is too great, wherever it is.
func TestApplyAllOrNothing(t *testing.T) {
	b := bag.Bag{ch(1, 5, most), ch(2, 5, 1), ch(3, 5, most)}
	may, state, over := []change{ch(0, 5, 1), ch(2, 5, -1), ch(4, 5, most)}, ch(2, 6, -1), ch(3, 5, 1)
	for _, c := range []struct {
		c batch.Batch
		e api.Errno
	}{
		{batch.Batch{may[0], may[1], state}, api.ErrState},
		{batch.Batch{state, may[2]}, api.ErrState},
		{batch.Batch{may[0], state, may[2]}, api.ErrState},
		{batch.Batch{may[0], may[1], over}, api.ErrOver},
		{batch.Batch{over, may[2]}, api.ErrOver},
		{batch.Batch{may[0], over, may[2]}, api.ErrOver},
		{batch.Batch{state, over}, api.ErrState},
		{batch.Batch{ch(1, 5, 1), state}, api.ErrState},
		{batch.Batch{ch(1, 5, 1), may[1], over}, api.ErrOver},
		{batch.Batch{ch(1, 5, 1), state, over}, api.ErrState},
		{batch.Batch{ch(1, 5, 1), over, ch(63, 0, -1)}, api.ErrState},
		{batch.Batch{ch(0, 0, -1), over}, api.ErrState},
	} {
		ask(t, b, c.c, nil, c.e)
	}
	ask(t, b, may, bag.Bag{ch(0, 5, 1), ch(1, 5, most), ch(3, 5, most), ch(4, 5, most)}, api.OK)
}

// P4.1
func TestApplyAgainstPlainCounts(t *testing.T) {
	d := dice(1)
	diffs := []int64{1, -1, 2, -2, -3, -1000, 5, most / 2, -most / 2}
	ended := map[api.Errno]int{}
	for range 20000 {
		b := d.bag()
		var c batch.Batch
		if d.roll(2) == 0 {
			c = d.batch(diffs)
		}
		// Less of what is there, or a little more, most often, so that much of it may be.
		for _, x := range b {
			if batch.Of(c, x.Port, x.Time) == 0 && d.roll(2) == 0 {
				c, _ = batch.Merge(c, batch.Batch{ch(x.Port, x.Time, []int64{-x.Diff, 1 - x.Diff, 1}[d.roll(3)])})
			}
		}
		want, e := apply(b, c)
		ask(t, b, c, want, e)
		ended[e]++
	}
	if ended[api.OK] < 1000 || ended[api.ErrState] < 1000 || ended[api.ErrOver] < 100 {
		t.Errorf("not all of it was asked: %v", ended)
	}
}

// P4.1: what is put in and taken out again leaves what was there.
func TestApplyAndBack(t *testing.T) {
	d := dice(2)
	for range 2000 {
		b, c := d.bag(), d.batch([]int64{1, 2, 3})
		then, e := bag.Apply(b, c)
		if e != api.OK {
			continue
		}
		ask(t, then, batch.Minus(c), b, api.OK)
	}
}

// P4.1: however many there are.
func TestApplyToMany(t *testing.T) {
	var all, even bag.Bag
	for port := range 64 {
		for time := range uint64(200) {
			all = append(all, ch(port, time, int64(port)+1))
			if time%2 == 0 {
				even = append(even, ch(port, time, int64(port)+1))
			}
		}
	}
	ask(t, all, batch.Minus(all), nil, api.OK)
	ask(t, nil, all, all, api.OK)
	odd, e := bag.Apply(all, batch.Minus(even))
	if e != api.OK || bag.Sum(odd) != 6400 || bag.Least(odd, 63) != 1 || bag.Least(even, 63) != 0 {
		t.Error(e, bag.Sum(odd))
	}
	ask(t, odd, batch.Minus(all), nil, api.ErrState)
}

// P4.1
func TestLeast(t *testing.T) {
	b := bag.Bag{ch(0, 7, 1), ch(1, 5, 2), ch(1, 9, 1), ch(1, 1<<63, 1), ch(4, 0, most), ch(4, 1, 1), ch(62, 1<<63, 1), ch(63, api.Never-1, 1)}
	want := map[int]uint64{0: 7, 1: 5, 4: 0, 62: 1 << 63, 63: api.Never - 1}
	for port := -2; port < 67; port++ {
		least, there := want[port]
		if !there {
			least = api.Never
		}
		if got := bag.Least(b, port); got != least {
			t.Errorf("Least of %d: %d, want %d", port, got, least)
		}
		if bag.Least(nil, port) != api.Never || bag.Least(bag.Bag{}, port) != api.Never {
			t.Errorf("Least of %d, of nothing", port)
		}
	}
	if bag.Least(b, math.MinInt) != api.Never || bag.Least(b, math.MaxInt) != api.Never {
		t.Error("Least of no port")
	}
	d := dice(3)
	for range 1000 {
		b := d.bag()
		for port := range 64 {
			least := api.Never
			for _, x := range b {
				if x.Port == port {
					least = min(least, x.Time)
				}
			}
			if got := bag.Least(b, port); got != least {
				t.Fatalf("Least(%v, %d) = %d, want %d", b, port, got, least)
			}
		}
	}
}

// P4.1
func TestSum(t *testing.T) {
	for _, c := range []struct {
		b    bag.Bag
		want int
	}{
		{nil, 0},
		{bag.Bag{}, 0},
		{bag.Bag{ch(0, 5, 1)}, 1},
		{bag.Bag{ch(0, 5, most)}, 1}, // so many Changes, not so many of them
		{bag.Bag{ch(0, 5, 2), ch(0, 6, 3), ch(63, 5, 4)}, 3},
	} {
		if got := bag.Sum(c.b); got != c.want {
			t.Errorf("Sum(%v) = %d, want %d", c.b, got, c.want)
		}
	}
}

// P4.2
func TestApplyKeepsNothing(t *testing.T) {
	x := []change{ch(0, 7, 1), ch(1, 5, 2), ch(3, 3, most)}
	for _, y := range [][]change{nil, {}, {ch(1, 5, -2)}, {ch(1, 5, -1)}, {ch(0, 1, 1), ch(9, 9, 9)}, {ch(9, 9, 9)}, {ch(0, 0, 1)}, {ch(3, 3, 1)}, {ch(3, 4, -1)}} {
		for _, pair := range [][2][]change{{x, y}, {nil, x}, {x, nil}, {x[:2], x[:2]}} {
			b, wholeB := roomy(pair[0])
			c, wholeC := roomy(pair[1])
			got, _ := bag.Apply(b, c)
			want := slices.Clone(got)
			if !wholeB() || !wholeC() {
				t.Errorf("%v or %v is changed", pair[0], pair[1])
			}
			spoil(b)
			spoil(c)
			if !slices.Equal(got, want) {
				t.Errorf("the answer shares with %v or %v", pair[0], pair[1])
			}
			b, wholeB = roomy(pair[0])
			c, wholeC = roomy(pair[1])
			got, _ = bag.Apply(b, c)
			spoil(got)
			if !wholeB() || !wholeC() {
				t.Errorf("the answer shares with %v or %v", pair[0], pair[1])
			}
		}
	}
	// Of one and the same list, too.
	b, whole := roomy(x[:2])
	got, e := bag.Apply(b, b)
	if e != api.OK || !whole() || !slices.Equal(got, bag.Bag{ch(0, 7, 2), ch(1, 5, 4)}) {
		t.Error(got, e)
	}
}

// P4.2
func TestAskingChangesNothing(t *testing.T) {
	b, whole := roomy([]change{ch(0, 7, 1), ch(1, 5, 2)})
	bag.Right(b)
	bag.Sum(b)
	for port := -1; port < 65; port++ {
		bag.Least(b, port)
	}
	if !whole() {
		t.Error("it is changed")
	}
}

// P1: of lists that aren't Right all that is asked is an end.
func TestWrongListsEnd(t *testing.T) {
	d := dice(4)
	ports := []int{math.MinInt, -1, 0, 1, 63, 64, math.MaxInt}
	times := []uint64{0, 1, 1 << 63, api.Never - 1, api.Never}
	diffs := []int64{math.MinInt64, -most - 1, -most, -1, 0, 1, most, most + 1, math.MaxInt64}
	wrong := func() batch.Batch {
		var b batch.Batch
		for range d.roll(40) {
			b = append(b, ch(ports[d.roll(len(ports))], times[d.roll(len(times))], diffs[d.roll(len(diffs))]))
		}
		return b
	}
	for range 5000 {
		b, c := wrong(), wrong()
		if bag.Right(b) != (batch.Right(b) && !slices.ContainsFunc(b, func(x change) bool { return x.Diff <= 0 })) {
			t.Fatalf("Right(%v) = %v", b, bag.Right(b))
		}
		bag.Apply(b, c)
		bag.Sum(b)
		for _, port := range ports {
			bag.Least(b, port)
		}
	}
}
