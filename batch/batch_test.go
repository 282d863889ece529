package batch_test

import (
	"math"
	"math/big"
	"slices"
	"testing"

	"marchland/api"
	"marchland/batch"
)

type change = batch.Change

const most = int64(api.MaxCount)

// ch is a Change in short.
func ch(port int, time uint64, diff int64) change {
	return change{Port: port, Time: time, Diff: diff}
}

// sums reckons by port and time without any bound, and sorts behind that.
func sums(lists ...[]change) (batch.Batch, api.Errno) {
	type key struct {
		port int
		time uint64
	}
	by := map[key]*big.Int{}
	for _, l := range lists {
		for _, c := range l {
			k := key{c.Port, c.Time}
			if by[k] == nil {
				by[k] = new(big.Int)
			}
			by[k].Add(by[k], big.NewInt(c.Diff))
		}
	}
	var b batch.Batch
	for k, sum := range by {
		if sum.CmpAbs(big.NewInt(most)) > 0 {
			return nil, api.ErrOver
		}
		if sum.Sign() != 0 {
			b = append(b, ch(k.port, k.time, sum.Int64()))
		}
	}
	slices.SortFunc(b, func(x, y change) int {
		if x.Port != y.Port {
			return x.Port - y.Port
		}
		if x.Time < y.Time {
			return -1
		}
		return 1
	})
	return b, api.OK
}

// dice is a row of numbers that is the same each time.
type dice uint64

func (d *dice) roll(n int) int {
	*d = *d*6364136223846793005 + 1442695040888963407
	return int(uint64(*d)>>33) % n
}

// list makes one that may be packed, with few ports and times, so that many meet.
func (d *dice) list(n int) []change {
	ports := []int{0, 1, 62, 63}
	times := []uint64{0, 1, 1 << 32, 1<<63 - 1, 1 << 63, api.Never - 1}
	diffs := []int64{0, 1, -1, 2, -2, 1000, most, -most, most - 1, 1 - most, most / 2, -most / 2}
	var l []change
	for range n {
		l = append(l, ch(ports[d.roll(len(ports))], times[d.roll(len(times))], diffs[d.roll(len(diffs))]))
	}
	return l
}

// roomy is a copy of l with something in its spare room; whole tells whether all of it is as it was.
func roomy(l []change) (copied []change, whole func() bool) {
	full := append(append(slices.Clone(l), ch(11, 11, 11)), ch(12, 12, 12))
	kept := slices.Clone(full)
	return full[:len(l)], func() bool { return slices.Equal(full, kept) }
}

func right(t *testing.T, b batch.Batch, want batch.Batch) {
	t.Helper()
	if !slices.Equal(b, want) {
		t.Errorf("got %v, want %v", b, want)
	}
	if !batch.Right(b) {
		t.Errorf("%v isn't Right", b)
	}
}

func refused(t *testing.T, b batch.Batch, e, want api.Errno) {
	t.Helper()
	if e != want || len(b) != 0 {
		t.Errorf("got %v, %v, want %v and nothing", b, e, want)
	}
}

// P3.1
func TestRight(t *testing.T) {
	for _, b := range []batch.Batch{
		nil,
		{},
		{ch(0, 0, 1)},
		{ch(63, 5, -1)},
		{ch(0, api.Never-1, 1)},
		{ch(0, 0, most)},
		{ch(0, 0, -most)},
		{ch(0, 5, 1), ch(0, 6, 1)},
		{ch(0, 5, 1), ch(1, 5, 1)},
		{ch(0, 9, 1), ch(1, 5, 1)},
		{ch(0, 5, 1), ch(1, 5, -1), ch(1, 9, 3), ch(63, 0, 1)},
		{ch(0, 1, 1), ch(0, 1<<63, 1), ch(0, api.Never-1, 1)}, // times have no sign
	} {
		if !batch.Right(b) {
			t.Errorf("%v is Right", b)
		}
	}
	for _, b := range []batch.Batch{
		{ch(-1, 0, 1)},
		{ch(64, 0, 1)},
		{ch(math.MinInt, 0, 1)},
		{ch(math.MaxInt, 0, 1)},
		{ch(0, api.Never, 1)},
		{ch(0, 0, 0)},
		{ch(0, 0, most+1)},
		{ch(0, 0, -most-1)},
		{ch(0, 0, math.MaxInt64)},
		{ch(0, 0, math.MinInt64)},
		{ch(0, 5, 1), ch(0, 5, 1)},
		{ch(0, 5, 1), ch(0, 5, 2)},
		{ch(0, 5, 1), ch(0, 5, -1)},
		{ch(0, 6, 1), ch(0, 5, 1)},
		{ch(1, 5, 1), ch(0, 5, 1)},
		{ch(1, 5, 1), ch(0, 9, 1)},
		{ch(0, 1<<63, 1), ch(0, 1, 1)},
		{ch(0, 5, 1), ch(1, 5, 1), ch(0, 6, 1)},
		{ch(0, 5, 1), ch(1, 5, 1), ch(1, 5, 1)},
		{ch(0, 5, 1), ch(1, 5, 0), ch(2, 5, 1)},
		{ch(0, 5, 1), ch(1, 5, 1), ch(64, 5, 1)},
		{ch(-1, 5, 1), ch(1, 5, 1)},
		{ch(0, 5, 1), ch(1, api.Never, 1)},
		{ch(0, api.Never, 1), ch(1, 5, 1)},
		{ch(0, 5, most+1), ch(1, 5, 1)},
	} {
		if batch.Right(b) {
			t.Errorf("%v isn't Right", b)
		}
	}
}

// P3.1: a Batch may have any length.
func TestRightOfLongLists(t *testing.T) {
	var b batch.Batch
	for port := range 64 {
		for time := range uint64(40) {
			b = append(b, ch(port, time, 1))
		}
	}
	if !batch.Right(b) || !batch.Right(b[:16]) || !batch.Right(b[:17]) {
		t.Error("it is Right")
	}
	b[len(b)-1] = b[len(b)-2]
	if batch.Right(b) {
		t.Error("it isn't Right")
	}
}

// P3.1
func TestPack(t *testing.T) {
	for _, c := range []struct{ l, want []change }{
		{nil, nil},
		{[]change{}, nil},
		{[]change{ch(1, 5, 2), ch(0, 7, 1), ch(1, 5, -2)}, []change{ch(0, 7, 1)}}, // the document's example
		{[]change{ch(3, 4, 5)}, []change{ch(3, 4, 5)}},
		{[]change{ch(0, 0, 1)}, []change{ch(0, 0, 1)}},
		{[]change{ch(63, api.Never-1, -1)}, []change{ch(63, api.Never-1, -1)}},
		{[]change{ch(0, 0, 0)}, nil},
		{[]change{ch(0, 0, 0), ch(1, 0, 0), ch(0, 1, 0)}, nil},
		{[]change{ch(0, 0, 0), ch(0, 1, 4)}, []change{ch(0, 1, 4)}},
		{[]change{ch(1, 5, 1), ch(1, 5, 1)}, []change{ch(1, 5, 2)}},
		{[]change{ch(1, 5, 1), ch(2, 5, 1), ch(1, 6, 1), ch(1, 5, 1)}, []change{ch(1, 5, 2), ch(1, 6, 1), ch(2, 5, 1)}},
		{[]change{ch(2, 0, 1), ch(1, 9, 1), ch(0, 99, 1)}, []change{ch(0, 99, 1), ch(1, 9, 1), ch(2, 0, 1)}},
		{[]change{ch(0, 1<<63, 1), ch(0, 1<<63-1, 1), ch(0, 0, 1)}, []change{ch(0, 0, 1), ch(0, 1<<63-1, 1), ch(0, 1<<63, 1)}},
		{[]change{ch(0, 1, 1), ch(0, 2, 1), ch(0, 1, -1), ch(0, 2, -1)}, nil},
		{[]change{ch(0, 1, 1), ch(0, 1, 1), ch(0, 1, -1)}, []change{ch(0, 1, 1)}},
		{[]change{ch(0, 1, -1), ch(0, 1, -1)}, []change{ch(0, 1, -2)}},
	} {
		b, e := batch.Pack(c.l)
		if e != api.OK {
			t.Errorf("Pack(%v): %v", c.l, e)
		}
		right(t, b, c.want)
	}
}

// P3.1
func TestPackOfMany(t *testing.T) {
	var l []change
	for i := range 16 {
		l = append(l, ch(63-i, uint64(i), 1))
	}
	b, e := batch.Pack(l)
	if e != api.OK || len(b) != 16 {
		t.Errorf("16: %v, %v", b, e)
	}
	want := slices.Clone(l)
	slices.Reverse(want)
	right(t, b, want)

	b, e = batch.Pack(append(slices.Clone(l), ch(0, 0, 1)))
	refused(t, b, e, api.ErrMany)
	// However few are left of them, and whatever they are.
	for _, n := range []int{17, 18, 32, 1000} {
		b, e = batch.Pack(make([]change, n))
		refused(t, b, e, api.ErrMany)
		b, e = batch.Pack(slices.Repeat([]change{ch(64, api.Never, most+1)}, n))
		refused(t, b, e, api.ErrMany)
		b, e = batch.Pack(slices.Repeat([]change{ch(0, 0, most)}, n))
		refused(t, b, e, api.ErrMany)
	}
	b, e = batch.Pack(slices.Repeat([]change{ch(7, 7, 3)}, 16))
	if e != api.OK {
		t.Error(e)
	}
	right(t, b, batch.Batch{ch(7, 7, 48)})
}

// P3.1
func TestPackRefusesChanges(t *testing.T) {
	for _, c := range []struct {
		x    change
		want api.Errno
	}{
		{ch(-1, 5, 1), api.ErrPort},
		{ch(64, 5, 1), api.ErrPort},
		{ch(65, 5, 1), api.ErrPort},
		{ch(math.MinInt, 5, 1), api.ErrPort},
		{ch(math.MaxInt, 5, 1), api.ErrPort},
		{ch(1<<32, 5, 1), api.ErrPort},
		{ch(64, 5, 0), api.ErrPort},
		{ch(0, api.Never, 1), api.ErrArg},
		{ch(63, api.Never, 1), api.ErrArg},
		{ch(0, api.Never, 0), api.ErrArg},
		{ch(0, 5, most+1), api.ErrOver},
		{ch(0, 5, -most-1), api.ErrOver},
		{ch(0, 5, math.MaxInt64), api.ErrOver},
		{ch(0, 5, math.MinInt64), api.ErrOver},
		// Of one Change the one named first.
		{ch(64, api.Never, 1), api.ErrPort},
		{ch(-1, 5, most+1), api.ErrPort},
		{ch(64, api.Never, most+1), api.ErrPort},
		{ch(0, api.Never, most+1), api.ErrArg},
		{ch(0, api.Never, -most-1), api.ErrArg},
	} {
		for _, l := range [][]change{
			{c.x},
			{ch(0, 1, 1), c.x},
			{c.x, ch(0, 1, 1)},
			append(slices.Repeat([]change{ch(0, 1, 1)}, 15), c.x),
			{ch(0, 1, most), ch(0, 1, most), c.x}, // the sums come behind
		} {
			b, e := batch.Pack(l)
			refused(t, b, e, c.want)
		}
	}
	for _, x := range []change{ch(0, 0, 1), ch(63, 0, 1), ch(0, api.Never-1, 1), ch(0, 0, most), ch(0, 0, -most)} {
		b, e := batch.Pack([]change{x})
		if e != api.OK {
			t.Errorf("%v: %v", x, e)
		}
		right(t, b, batch.Batch{x})
	}
}

// P3.1: the first Change counts, whatever comes behind.
func TestPackRefusesTheFirst(t *testing.T) {
	port, arg, over := ch(64, 0, 1), ch(0, api.Never, 1), ch(0, 0, most+1)
	for _, c := range []struct {
		l    []change
		want api.Errno
	}{
		{[]change{port, arg, over}, api.ErrPort},
		{[]change{port, over, arg}, api.ErrPort},
		{[]change{arg, port, over}, api.ErrArg},
		{[]change{arg, over, port}, api.ErrArg},
		{[]change{over, port, arg}, api.ErrOver},
		{[]change{over, arg, port}, api.ErrOver},
		{[]change{ch(5, 5, 5), over, port}, api.ErrOver},
		{[]change{ch(5, 5, 5), arg, port}, api.ErrArg},
	} {
		b, e := batch.Pack(c.l)
		refused(t, b, e, c.want)
	}
}

// P3.1
func TestPackSumsAtTheLimit(t *testing.T) {
	same := func(diffs ...int64) []change {
		var l []change
		for _, d := range diffs {
			l = append(l, ch(4, 4, d))
		}
		return l
	}
	for _, c := range []struct {
		l    []change
		want int64
	}{
		{same(most-1, 1), most},
		{same(1-most, -1), -most},
		{same(most/2, most/2), most},
		{same(-most/2, -most/2), -most},
		{same(most, -most), 0},
		{same(-most, most), 0},
		// What comes between may be beyond.
		{same(most, most, -most), most},
		{same(most, 1, -1), most},
		{same(-most, -1, 1), -most},
		{same(most, most, most, most, most, most, most, most, -most, -most, -most, -most, -most, -most, -most), most},
		{same(most, most, most, most, most, most, most, most, -most, -most, -most, -most, -most, -most, -most, -most), 0},
	} {
		b, e := batch.Pack(c.l)
		if e != api.OK {
			t.Errorf("%v: %v", c.l, e)
		}
		var want batch.Batch
		if c.want != 0 {
			want = batch.Batch{ch(4, 4, c.want)}
		}
		right(t, b, want)
	}
	for _, l := range [][]change{
		same(most, 1),
		same(1, most),
		same(-most, -1),
		same(most, most),
		same(-most, -most),
		slices.Repeat(same(most), 8),
		slices.Repeat(same(most), 15),
		slices.Repeat(same(most), 16), // 2^63, that wraps
		slices.Repeat(same(-most), 16),
		append(same(most, 1), ch(0, 0, 1), ch(9, 9, 9)),
		append(same(most, 1), ch(5, 5, most), ch(5, 5, 1)),
	} {
		b, e := batch.Pack(l)
		refused(t, b, e, api.ErrOver)
	}
}

// P3.1
func TestPackAgainstPlainSums(t *testing.T) {
	d := dice(1)
	for range 5000 {
		l := d.list(d.roll(17))
		b, e := batch.Pack(l)
		want, wantE := sums(l)
		if e != wantE {
			t.Fatalf("Pack(%v): %v, want %v", l, e, wantE)
		}
		right(t, b, want)
	}
}

// P3.1
func TestMerge(t *testing.T) {
	five := batch.Batch{ch(1, 5, 2), ch(1, 9, 1)}
	for _, c := range []struct{ a, b, want batch.Batch }{
		{nil, nil, nil},
		{batch.Batch{}, nil, nil},
		{five, nil, five},
		{nil, five, five},
		{five, batch.Batch{}, five},
		{five, batch.Batch{ch(1, 5, -2)}, batch.Batch{ch(1, 9, 1)}},
		{five, batch.Batch{ch(1, 5, -2), ch(1, 9, -1)}, nil},
		{five, batch.Batch{ch(1, 9, 1)}, batch.Batch{ch(1, 5, 2), ch(1, 9, 2)}},
		{five, batch.Batch{ch(0, 7, 1), ch(1, 7, 1), ch(2, 0, 1)}, batch.Batch{ch(0, 7, 1), ch(1, 5, 2), ch(1, 7, 1), ch(1, 9, 1), ch(2, 0, 1)}},
		{five, batch.Batch{ch(1, 5, -3)}, batch.Batch{ch(1, 5, -1), ch(1, 9, 1)}},
		{batch.Batch{ch(0, 1<<63, 1)}, batch.Batch{ch(0, 1, 1)}, batch.Batch{ch(0, 1, 1), ch(0, 1<<63, 1)}},
		{batch.Batch{ch(2, 1, 1)}, batch.Batch{ch(1, 9, 1)}, batch.Batch{ch(1, 9, 1), ch(2, 1, 1)}},
		{batch.Batch{ch(0, 1, most)}, batch.Batch{ch(0, 1, -most)}, nil},
		{batch.Batch{ch(0, 1, most-1)}, batch.Batch{ch(0, 1, 1)}, batch.Batch{ch(0, 1, most)}},
		{batch.Batch{ch(0, 1, 1-most)}, batch.Batch{ch(0, 1, -1)}, batch.Batch{ch(0, 1, -most)}},
		{batch.Batch{ch(0, 1, most)}, batch.Batch{ch(0, 2, most), ch(1, 1, most)}, batch.Batch{ch(0, 1, most), ch(0, 2, most), ch(1, 1, most)}},
	} {
		b, e := batch.Merge(c.a, c.b)
		if e != api.OK {
			t.Errorf("Merge(%v, %v): %v", c.a, c.b, e)
		}
		right(t, b, c.want)
	}
	for _, c := range []struct{ a, b batch.Batch }{
		{batch.Batch{ch(0, 1, most)}, batch.Batch{ch(0, 1, 1)}},
		{batch.Batch{ch(0, 1, -most)}, batch.Batch{ch(0, 1, -1)}},
		{batch.Batch{ch(0, 1, most)}, batch.Batch{ch(0, 1, most)}},
		{batch.Batch{ch(0, 1, -most)}, batch.Batch{ch(0, 1, -most)}},
		{batch.Batch{ch(0, 0, 3), ch(0, 1, most), ch(9, 9, 9)}, batch.Batch{ch(0, 0, 4), ch(0, 1, 1), ch(8, 8, 8)}},
		{batch.Batch{ch(0, 0, 3), ch(63, 1, most)}, batch.Batch{ch(0, 0, 4), ch(63, 1, 1)}},
	} {
		b, e := batch.Merge(c.a, c.b)
		refused(t, b, e, api.ErrOver)
	}
}

// P3.1: however many there are.
func TestMergeOfMany(t *testing.T) {
	var even, odd, all batch.Batch
	for port := range 64 {
		for time := range uint64(64) {
			c := ch(port, time, int64(port)+1)
			all = append(all, c)
			if time%2 == 0 {
				even = append(even, c)
			} else {
				odd = append(odd, c)
			}
		}
	}
	for _, pair := range [][2]batch.Batch{{even, odd}, {odd, even}, {all, nil}, {nil, all}, {all[:16], all[16:]}, {all[17:], all[:17]}} {
		b, e := batch.Merge(pair[0], pair[1])
		if e != api.OK {
			t.Fatal(e)
		}
		right(t, b, all)
	}
	b, e := batch.Merge(all, batch.Minus(all))
	if e != api.OK {
		t.Fatal(e)
	}
	right(t, b, nil)
	b, e = batch.Merge(all, batch.Minus(even))
	if e != api.OK {
		t.Fatal(e)
	}
	right(t, b, odd)
}

// P3.2, and P3.1 of Merge against plain sums.
func TestMergingGoesInAnyOrder(t *testing.T) {
	d := dice(2)
	var packed []batch.Batch
	for len(packed) < 200 {
		if b, e := batch.Pack(d.list(d.roll(17))); e == api.OK {
			packed = append(packed, b)
		}
	}
	for range 5000 {
		a, b, c := packed[d.roll(200)], packed[d.roll(200)], packed[d.roll(200)]
		ab, e := batch.Merge(a, b)
		want, wantE := sums(a, b)
		if e != wantE {
			t.Fatalf("Merge(%v, %v): %v, want %v", a, b, e, wantE)
		}
		right(t, ab, want)
		ba, e2 := batch.Merge(b, a)
		if e != e2 || !batch.Same(ab, ba) {
			t.Fatalf("Merge of %v and %v isn't the same the other way round", a, b)
		}
		bc, e3 := batch.Merge(b, c)
		if e != api.OK || e3 != api.OK {
			continue
		}
		left, e4 := batch.Merge(ab, c)
		whole, e5 := batch.Merge(a, bc)
		if e4 != e5 || !batch.Same(left, whole) {
			t.Fatalf("Merge of %v, %v, %v hangs on the order", a, b, c)
		}
	}
}

// P3.1
func TestOf(t *testing.T) {
	b := batch.Batch{ch(0, 0, 1), ch(1, 5, 2), ch(1, 9, -3), ch(1, 1<<63, 4), ch(63, 0, -most), ch(63, api.Never-1, most)}
	for _, c := range b {
		if got := batch.Of(b, c.Port, c.Time); got != c.Diff {
			t.Errorf("Of(%d, %d) = %d, want %d", c.Port, c.Time, got, c.Diff)
		}
	}
	for _, c := range []change{ch(0, 1, 0), ch(1, 0, 0), ch(1, 4, 0), ch(1, 6, 0), ch(1, 10, 0), ch(2, 5, 0), ch(5, 1, 0), ch(62, 0, 0), ch(63, 1, 0), ch(63, api.Never, 0), ch(0, api.Never, 0), ch(-1, 0, 0), ch(64, 0, 0), ch(math.MinInt, 5, 0), ch(math.MaxInt, 5, 0)} {
		if got := batch.Of(b, c.Port, c.Time); got != 0 {
			t.Errorf("Of(%d, %d) = %d, there is none", c.Port, c.Time, got)
		}
		if batch.Of(nil, c.Port, c.Time) != 0 || batch.Of(batch.Batch{}, c.Port, c.Time) != 0 {
			t.Error("Of nothing")
		}
	}
	d := dice(3)
	for range 500 {
		b, e := batch.Pack(d.list(16))
		if e != api.OK {
			continue
		}
		for port := -1; port <= 64; port++ {
			for _, time := range []uint64{0, 1, 2, 1 << 32, 1<<63 - 1, 1 << 63, api.Never - 1, api.Never} {
				var want int64
				for _, c := range b {
					if c.Port == port && c.Time == time {
						want = c.Diff
					}
				}
				if got := batch.Of(b, port, time); got != want {
					t.Fatalf("Of(%v, %d, %d) = %d, want %d", b, port, time, got, want)
				}
			}
		}
	}
}

// P3.1
func TestMinus(t *testing.T) {
	if len(batch.Minus(nil)) != 0 || len(batch.Minus(batch.Batch{})) != 0 {
		t.Error("Minus of nothing")
	}
	b := batch.Batch{ch(0, 0, 1), ch(1, 5, -2), ch(1, 9, most), ch(63, api.Never-1, -most)}
	right(t, batch.Minus(b), batch.Batch{ch(0, 0, -1), ch(1, 5, 2), ch(1, 9, -most), ch(63, api.Never-1, most)})
	right(t, batch.Minus(batch.Minus(b)), b)
}

// P3.1
func TestSame(t *testing.T) {
	b := batch.Batch{ch(0, 0, 1), ch(1, 5, -2)}
	for _, c := range []struct {
		a    batch.Batch
		want bool
	}{
		{batch.Batch{ch(0, 0, 1), ch(1, 5, -2)}, true},
		{b, true},
		{nil, false},
		{b[:1], false},
		{b[1:], false},
		{batch.Batch{ch(0, 0, 1), ch(1, 5, -2), ch(2, 0, 1)}, false},
		{batch.Batch{ch(0, 0, 2), ch(1, 5, -2)}, false},
		{batch.Batch{ch(0, 0, 1), ch(1, 5, 2)}, false},
		{batch.Batch{ch(0, 0, 1), ch(1, 6, -2)}, false},
		{batch.Batch{ch(0, 0, 1), ch(2, 5, -2)}, false},
		{batch.Batch{ch(0, 1, 1), ch(1, 5, -2)}, false},
	} {
		if batch.Same(c.a, b) != c.want || batch.Same(b, c.a) != c.want {
			t.Errorf("Same(%v, %v)", c.a, b)
		}
	}
	if !batch.Same(nil, batch.Batch{}) || !batch.Same(batch.Batch{}, nil) || !batch.Same(nil, nil) {
		t.Error("nil and empty are one")
	}
}

// P3.3
func TestPackKeepsNothing(t *testing.T) {
	for _, l := range [][]change{
		{ch(1, 5, 2), ch(0, 7, 1), ch(1, 5, -2)},
		{ch(0, 7, 1), ch(1, 5, 2)},
		{ch(9, 9, 9)},
		{},
		{ch(2, 2, 2), ch(64, 0, 0), ch(1, 1, 1)},
		{ch(2, 2, most), ch(1, 1, 1), ch(2, 2, most)},
	} {
		given, whole := roomy(l)
		b, _ := batch.Pack(given)
		want := slices.Clone(b)
		if !whole() {
			t.Errorf("Pack changed %v", l)
		}
		for i := range given {
			given[i] = ch(33, 33, 33)
		}
		if !slices.Equal(b, want) {
			t.Errorf("Pack's answer shares with %v", l)
		}
		given, whole = roomy(l)
		b, _ = batch.Pack(given)
		spoil(b)
		if !whole() {
			t.Errorf("Pack's answer shares with %v", l)
		}
	}
}

// spoil overwrites an answer, its spare room too.
func spoil(b batch.Batch) {
	b = b[:cap(b)]
	for i := range b {
		b[i] = ch(44, 44, 44)
	}
}

// P3.3
func TestMergeAndMinusKeepNothing(t *testing.T) {
	x := []change{ch(0, 7, 1), ch(1, 5, 2), ch(3, 3, most)}
	for _, y := range [][]change{nil, {}, {ch(1, 5, -2)}, {ch(0, 1, 1), ch(9, 9, 9)}, {ch(9, 9, 9)}, {ch(0, 0, 1)}, {ch(3, 3, 1)}, x} {
		for _, pair := range [][2][]change{{x, y}, {y, x}, {y, y}, {y, nil}, {nil, y}} {
			a, wholeA := roomy(pair[0])
			b, wholeB := roomy(pair[1])
			m, _ := batch.Merge(a, b)
			minus := batch.Minus(a)
			if !wholeA() || !wholeB() {
				t.Errorf("%v or %v is changed", pair[0], pair[1])
			}
			wantM, wantMinus := slices.Clone(m), slices.Clone(minus)
			spoil(a)
			spoil(b)
			if !slices.Equal(m, wantM) || !slices.Equal(minus, wantMinus) {
				t.Errorf("an answer shares with %v or %v", pair[0], pair[1])
			}
			a, wholeA = roomy(pair[0])
			b, wholeB = roomy(pair[1])
			m, _ = batch.Merge(a, b)
			spoil(m)
			spoil(batch.Minus(a))
			if !wholeA() || !wholeB() {
				t.Errorf("an answer shares with %v or %v", pair[0], pair[1])
			}
		}
	}
	// Of one and the same list, too.
	a, whole := roomy(x[:2])
	m, e := batch.Merge(a, a)
	if e != api.OK || !whole() {
		t.Error(m, e)
	}
	right(t, m, batch.Batch{ch(0, 7, 2), ch(1, 5, 4)})
}

// P3.3
func TestAskingChangesNothing(t *testing.T) {
	b, whole := roomy([]change{ch(0, 7, 1), ch(1, 5, 2)})
	batch.Right(b)
	batch.Of(b, 1, 5)
	batch.Of(b, 1, 6)
	batch.Same(b, b[:1])
	if !whole() {
		t.Error("it is changed")
	}
}

// P1: of lists that aren't Right all that is asked is an end.
func TestWrongListsEnd(t *testing.T) {
	d := dice(4)
	ports := []int{math.MinInt, -1, 0, 1, 63, 64, math.MaxInt}
	times := []uint64{0, 1, 1 << 63, api.Never - 1, api.Never}
	diffs := []int64{math.MinInt64, -most - 1, -most, -1, 0, 1, most, most + 1, math.MaxInt64}
	wrong := func() batch.Batch {
		var b batch.Batch
		for range d.roll(40) {
			b = append(b, ch(ports[d.roll(len(ports))], times[d.roll(len(times))], diffs[d.roll(len(diffs))]))
		}
		return b
	}
	for range 2000 {
		a, b := wrong(), wrong()
		batch.Right(a)
		batch.Merge(a, b)
		batch.Minus(a)
		batch.Same(a, b)
		batch.Of(a, ports[d.roll(len(ports))], times[d.roll(len(times))])
		if p, e := batch.Pack(a); e == api.OK && !batch.Right(p) || e != api.OK && len(p) != 0 {
			t.Fatalf("Pack(%v) = %v, %v", a, p, e)
		}
	}
}

// Changes compare by ==.
func TestChangesCompare(t *testing.T) {
	if ch(1, 2, 3) != ch(1, 2, 3) || ch(1, 2, 3) == ch(1, 2, 4) {
		t.Error("Changes compare by ==")
	}
}
