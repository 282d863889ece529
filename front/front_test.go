package front_test

import (
	"errors"
	"math"
	"math/big"
	"slices"
	"testing"

	"marchland/api"
	"marchland/bag"
	"marchland/batch"
	"marchland/fault"
	"marchland/front"
	"marchland/graph"
	"marchland/stamp"
)

type change = batch.Change

const (
	most  = int64(api.MaxCount)
	never = api.Never
)

// ch is a Change in short, ed an Edge.
func ch(port int, time uint64, diff int64) change { return change{Port: port, Time: time, Diff: diff} }

func ed(from, to int, add uint64) graph.Edge { return graph.Edge{From: from, To: to, Add: add} }

// of is a Graph of so many ports, with one input.
func of(ports int, edges ...graph.Edge) graph.Graph {
	return graph.Graph{Ports: ports, Edges: edges, Inputs: []int{0}}
}

// reach is a Reach of it, at which b is there.
func reach(t *testing.T, g graph.Graph, b bag.Bag) *front.Reach {
	t.Helper()
	r, e := front.New(g)
	if e != nil || r == nil {
		t.Fatal(r, e)
	}
	if e := r.Apply(b); e != api.OK {
		t.Fatal(e)
	}
	return r
}

// dice is a row of numbers that is the same each time.
type dice uint64

func (d *dice) roll(n int) int {
	*d = *d*6364136223846793005 + 1442695040888963407
	return int(uint64(*d)>>33) % n
}

// graph makes a small one that may be.
func (d *dice) graph() graph.Graph {
	adds := []uint64{0, 0, 1, 2, 3, 5, 1 << 32, 1<<63 - 1, 1 << 63, never - 3, never - 2, never - 1, never}
	for {
		g := of(1 + d.roll(5))
		for range d.roll(9) {
			g.Edges = append(g.Edges, ed(d.roll(g.Ports), d.roll(g.Ports), adds[d.roll(len(adds))]))
		}
		if graph.Check(g) == nil {
			return g
		}
	}
}

// batch makes one that is Right, of these ports, with few times, so that many meet.
func (d *dice) batch(ports int, diffs ...int64) batch.Batch {
	var b batch.Batch
	for port := range ports {
		for _, time := range []uint64{0, 1, 2, 5, 1 << 32, 1<<63 - 1, 1 << 63, never - 4, never - 3, never - 2, never - 1} {
			if d.roll(6) == 0 {
				b = append(b, ch(port, time, diffs[d.roll(len(diffs))]))
			}
		}
	}
	return b
}

// fronts goes through all ports and times, and reckons without any bound.
func fronts(paths [][]uint64, b bag.Bag) []uint64 {
	l := make([]uint64, len(paths))
	for port := range l {
		l[port] = never
		for _, x := range b {
			if x.Port >= len(paths) || paths[x.Port][port] == never {
				continue
			}
			sum := new(big.Int).SetUint64(x.Time)
			sum.Add(sum, new(big.Int).SetUint64(paths[x.Port][port]))
			if sum.IsUint64() {
				l[port] = min(l[port], sum.Uint64())
			}
		}
	}
	return l
}

// roomy is a copy of l with something in its spare room; whole tells whether all of it is as it was.
func roomy(l []change) (copied []change, whole func() bool) {
	full := append(append(slices.Clone(l), ch(11, 11, 11)), ch(12, 12, 12))
	kept := slices.Clone(full)
	return full[:len(l)], func() bool { return slices.Equal(full, kept) }
}

// spoil overwrites a list, its spare room too.
func spoil(b []change) {
	b = b[:cap(b)]
	for i := range b {
		b[i] = ch(44, 44, 44)
	}
}

// is holds what a Reach tells against what it should.
func is(t *testing.T, r *front.Reach, b bag.Bag, fronts ...uint64) {
	t.Helper()
	if got := r.Bag(); !slices.Equal(got, b) || !bag.Right(got) {
		t.Errorf("there is %v, want %v", got, b)
	}
	if got := r.Fronts(); !slices.Equal(got, fronts) {
		t.Errorf("fronts %v, want %v", got, fronts)
	}
}

// P6.1
func TestOf(t *testing.T) {
	line := of(3, ed(0, 1, 3), ed(1, 2, 4))
	round := of(3, ed(0, 1, 1), ed(1, 2, 0), ed(2, 0, 0))
	far := of(3, ed(0, 1, never-3), ed(1, 2, 2), ed(2, 0, never))
	for _, c := range []struct {
		name string
		g    graph.Graph
		b    bag.Bag
		want []uint64
	}{
		{"the document's", of(2, ed(0, 1, 3)), bag.Bag{ch(0, 5, 1)}, []uint64{5, 8}},
		{"nothing", line, nil, []uint64{never, never, never}},
		{"nothing", line, bag.Bag{}, []uint64{never, never, never}},
		{"one port, nothing", of(1), nil, []uint64{never}},
		{"one port", of(1), bag.Bag{ch(0, 0, 1)}, []uint64{0}},
		{"one port, next to Never", of(1), bag.Bag{ch(0, never-1, 1)}, []uint64{never - 1}},
		{"at the first", line, bag.Bag{ch(0, 5, 1)}, []uint64{5, 8, 12}},
		{"in the middle", line, bag.Bag{ch(1, 5, 1)}, []uint64{never, 5, 9}},
		{"at the last", line, bag.Bag{ch(2, 5, 1)}, []uint64{never, never, 5}},
		{"the least of several", line, bag.Bag{ch(0, 5, 1), ch(0, 6, 1), ch(0, 900, 1)}, []uint64{5, 8, 12}},
		{"however many", line, bag.Bag{ch(0, 5, most), ch(0, 6, 1)}, []uint64{5, 8, 12}},
		{"later there than by the way", line, bag.Bag{ch(0, 5, 1), ch(1, 9, 1), ch(2, 20, 1)}, []uint64{5, 8, 12}},
		{"earlier there than by the way", line, bag.Bag{ch(0, 5, 1), ch(1, 7, 1), ch(2, 3, 1)}, []uint64{5, 7, 3}},
		{"just so", line, bag.Bag{ch(0, 5, 1), ch(1, 8, 1), ch(2, 12, 1)}, []uint64{5, 8, 12}},
		{"back is no way", line, bag.Bag{ch(1, 9, 1), ch(2, 0, 1)}, []uint64{never, 9, 0}},
		{"round", round, bag.Bag{ch(2, 5, 1)}, []uint64{5, 6, 5}},
		{"round", round, bag.Bag{ch(0, 5, 1), ch(1, 5, 1)}, []uint64{5, 5, 5}},
		{"an edge to itself", of(1, ed(0, 0, 1)), bag.Bag{ch(0, 5, 1)}, []uint64{5}},
		{"times have no sign", of(2), bag.Bag{ch(0, 1, 1), ch(0, 1<<63, 1), ch(1, 1<<63, 1)}, []uint64{1, 1 << 63}},
		{"far", far, bag.Bag{ch(0, 0, 1)}, []uint64{0, never - 3, never - 1}},
		{"a sum that is Never's number", far, bag.Bag{ch(0, 1, 1)}, []uint64{1, never - 2, never}},
		{"a sum that would wrap", far, bag.Bag{ch(0, 5, 1)}, []uint64{5, never, never}},
		{"sums that would wrap", far, bag.Bag{ch(0, never-1, 1), ch(2, 1, 1)}, []uint64{never - 1, never, 1}},
		{"a port that isn't one of these", line, bag.Bag{ch(3, 0, 1)}, []uint64{never, never, never}},
		{"ports that aren't some of these", line, bag.Bag{ch(0, 5, 1), ch(3, 0, 1), ch(63, 0, 1)}, []uint64{5, 8, 12}},
	} {
		paths := graph.Paths(c.g)
		if got := front.Of(paths, c.b); !slices.Equal(got, c.want) {
			t.Errorf("%s: Of %v: %v, want %v", c.name, c.b, got, c.want)
		}
	}
	for _, paths := range [][][]uint64{nil, {}} {
		if got := front.Of(paths, bag.Bag{ch(0, 5, 1)}); len(got) != 0 {
			t.Errorf("Of no ports: %v", got)
		}
	}
}

// P6.1: against all ports and times, of some ports that aren't the Graph's, too.
func TestOfAgainstAllTimes(t *testing.T) {
	d := dice(1)
	for range 10000 {
		paths := graph.Paths(d.graph())
		b := d.batch(len(paths)+d.roll(2), 1, 2, most)
		if d.roll(2) == 0 && len(b) > 3 {
			b = b[d.roll(3):] // the first ports have nothing
		}
		if got, want := front.Of(paths, b), fronts(paths, b); !slices.Equal(got, want) {
			t.Fatalf("Of(%v, %v) = %v, want %v", paths, b, got, want)
		}
	}
}

// P6.1
func TestOfManyPorts(t *testing.T) {
	g := of(64)
	for port := range 63 {
		g.Edges = append(g.Edges, ed(port+1, port, 2))
	}
	paths := graph.Paths(g)
	got := front.Of(paths, bag.Bag{ch(40, 1000, 1), ch(63, 500, 1)})
	for port := range 64 {
		if want := 500 + 2*uint64(63-port); got[port] != want {
			t.Errorf("port %d: %d, want %d", port, got[port], want)
		}
	}
}

// P6.1: the document's example, and what follows.
func TestReach(t *testing.T) {
	r := reach(t, of(3, ed(0, 1, 3)), nil)
	is(t, r, nil, never, never, never)
	for i, c := range []struct {
		c    batch.Batch
		e    api.Errno
		b    bag.Bag
		want []uint64
	}{
		{batch.Batch{ch(0, 5, 1)}, api.OK, bag.Bag{ch(0, 5, 1)}, []uint64{5, 8, never}},
		{nil, api.OK, bag.Bag{ch(0, 5, 1)}, []uint64{5, 8, never}},
		{batch.Batch{}, api.OK, bag.Bag{ch(0, 5, 1)}, []uint64{5, 8, never}},
		{batch.Batch{ch(0, 5, 1), ch(1, 9, 1)}, api.OK, bag.Bag{ch(0, 5, 2), ch(1, 9, 1)}, []uint64{5, 8, never}},
		{batch.Batch{ch(0, 5, -1)}, api.OK, bag.Bag{ch(0, 5, 1), ch(1, 9, 1)}, []uint64{5, 8, never}},
		{batch.Batch{ch(0, 5, -2)}, api.ErrState, bag.Bag{ch(0, 5, 1), ch(1, 9, 1)}, []uint64{5, 8, never}},
		{batch.Batch{ch(0, 5, -1)}, api.OK, bag.Bag{ch(1, 9, 1)}, []uint64{never, 9, never}},
		{batch.Batch{ch(0, 5, -1)}, api.ErrState, bag.Bag{ch(1, 9, 1)}, []uint64{never, 9, never}},
		{batch.Batch{ch(1, 9, most)}, api.ErrOver, bag.Bag{ch(1, 9, 1)}, []uint64{never, 9, never}},
		{batch.Batch{ch(1, 9, most-1)}, api.OK, bag.Bag{ch(1, 9, most)}, []uint64{never, 9, never}},
		{batch.Batch{ch(1, 9, -most), ch(2, never-1, most)}, api.OK, bag.Bag{ch(2, never-1, most)}, []uint64{never, never, never - 1}},
		{batch.Batch{ch(0, 0, 1), ch(2, never-1, 1)}, api.ErrOver, bag.Bag{ch(2, never-1, most)}, []uint64{never, never, never - 1}},
		{batch.Batch{ch(0, 0, -1), ch(2, never-1, 1)}, api.ErrState, bag.Bag{ch(2, never-1, most)}, []uint64{never, never, never - 1}},
		{batch.Batch{ch(2, never-1, -most)}, api.OK, nil, []uint64{never, never, never}},
	} {
		if e := r.Apply(c.c); e != c.e {
			t.Errorf("%d: Apply(%v) is %v, want %v", i, c.c, e, c.e)
		}
		is(t, r, c.b, c.want...)
	}
}

// P6.1: it has graph.Check's error, at its place.
func TestNewRefuses(t *testing.T) {
	for _, c := range []struct {
		g    graph.Graph
		want string
		kind api.Errno
	}{
		{graph.Graph{}, "port", api.ErrPort},
		{of(65), "port", api.ErrPort},
		{of(-1), "port", api.ErrPort},
		{graph.Graph{Ports: 1}, "many", api.ErrMany},
		{of(1, slices.Repeat([]graph.Edge{ed(0, 0, 1)}, 257)...), "many", api.ErrMany},
		{of(2, ed(0, 1, 1), ed(0, 2, 1)), "edge 1: to 2: port", api.ErrPort},
		{graph.Graph{Ports: 2, Inputs: []int{1, 1}}, "input 1: argument", api.ErrArg},
		{of(2, ed(1, 1, 0)), "port 1: cycle", api.ErrCycle},
	} {
		r, e := front.New(c.g)
		if r != nil || fault.Text(e) != c.want || !errors.Is(e, c.kind) {
			t.Errorf("New(%v): %v, %v, want %s", c.g, r, e, c.want)
		}
		if !slices.Equal(fault.Path(e), fault.Path(graph.Check(c.g))) {
			t.Errorf("New(%v): at %v", c.g, fault.Path(e))
		}
	}
	for _, g := range []graph.Graph{of(1), of(64), of(1, slices.Repeat([]graph.Edge{ed(0, 0, 1)}, 256)...)} {
		r, e := front.New(g)
		if e != nil || r == nil || len(r.Fronts()) != g.Ports || len(r.Bag()) != 0 {
			t.Errorf("New(%v): %v, %v", g, r, e)
		}
	}
}

// P6.1, P5: in this order, and then nothing changes.
func TestApplyRefuses(t *testing.T) {
	b := bag.Bag{ch(0, 5, 1), ch(1, 7, most)}
	r := reach(t, of(2, ed(0, 1, 1)), b)
	for _, c := range []struct {
		c batch.Batch
		e api.Errno
	}{
		{batch.Batch{ch(0, 5, 0)}, api.ErrArg},
		{batch.Batch{ch(-1, 5, 1)}, api.ErrArg},
		{batch.Batch{ch(64, 5, 1)}, api.ErrArg}, // no Batch has such a Port
		{batch.Batch{ch(math.MaxInt, 5, 1)}, api.ErrArg},
		{batch.Batch{ch(math.MinInt, 5, 1)}, api.ErrArg},
		{batch.Batch{ch(0, never, 1)}, api.ErrArg},
		{batch.Batch{ch(0, 5, most+1)}, api.ErrArg},
		{batch.Batch{ch(0, 5, -most-1)}, api.ErrArg},
		{batch.Batch{ch(0, 6, 1), ch(0, 5, 1)}, api.ErrArg},
		{batch.Batch{ch(0, 5, 1), ch(0, 5, 1)}, api.ErrArg},
		{batch.Batch{ch(2, 5, 1)}, api.ErrPort},
		{batch.Batch{ch(3, 5, 1)}, api.ErrPort},
		{batch.Batch{ch(63, 5, 1)}, api.ErrPort},
		{batch.Batch{ch(2, 5, -1)}, api.ErrPort},
		{batch.Batch{ch(0, 4, 1), ch(0, 6, 1), ch(2, 0, 1)}, api.ErrPort},
		{batch.Batch{ch(0, 6, -1)}, api.ErrState},
		{batch.Batch{ch(0, 5, -2)}, api.ErrState},
		{batch.Batch{ch(0, 4, 1), ch(0, 6, -1)}, api.ErrState},
		{batch.Batch{ch(1, 7, 1)}, api.ErrOver},
		{batch.Batch{ch(0, 4, 1), ch(1, 7, 1)}, api.ErrOver},
		{batch.Batch{ch(0, 5, -1), ch(1, 7, 1)}, api.ErrOver},
		// Of several the one named first.
		{batch.Batch{ch(2, 5, 1), ch(0, 5, 1)}, api.ErrArg},
		{batch.Batch{ch(0, 5, 1), ch(2, 5, 1), ch(3, 5, 0)}, api.ErrArg},
		{batch.Batch{ch(0, 5, -2), ch(1, 7, 0)}, api.ErrArg},
		{batch.Batch{ch(0, 5, -2), ch(2, 5, 1)}, api.ErrPort},
		{batch.Batch{ch(1, 7, 1), ch(2, 5, 1)}, api.ErrPort},
		{batch.Batch{ch(0, 5, -2), ch(1, 7, 1)}, api.ErrState},
		{batch.Batch{ch(1, 7, 1), ch(1, 8, -1)}, api.ErrState},
	} {
		given, whole := roomy(c.c)
		if e := r.Apply(given); e != c.e {
			t.Errorf("Apply(%v) is %v, want %v", c.c, e, c.e)
		}
		if !whole() {
			t.Errorf("%v is changed", c.c)
		}
		is(t, r, b, 5, 6)
	}
	if e := r.Apply(batch.Batch{ch(0, 5, -1), ch(1, 7, -most)}); e != api.OK {
		t.Error(e)
	}
	is(t, r, nil, never, never)
}

// P6.1: the last port of each Graph is one of its own, and the next one isn't.
func TestApplyAtTheLastPort(t *testing.T) {
	for ports := 1; ports <= 64; ports++ {
		r := reach(t, of(ports), bag.Bag{ch(ports-1, 3, 1)})
		if ports < 64 {
			if e := r.Apply(batch.Batch{ch(ports, 3, 1)}); e != api.ErrPort {
				t.Errorf("%d ports: %v", ports, e)
			}
		}
		if f := r.Fronts(); len(f) != ports || f[ports-1] != 3 || ports > 1 && f[ports-2] != never {
			t.Errorf("%d ports: %v", ports, f)
		}
	}
}

// P6.1, P1: a nil Reach.
func TestNilReach(t *testing.T) {
	var r *front.Reach
	for _, c := range []batch.Batch{nil, {}, {ch(0, 5, 1)}, {ch(64, 5, 1)}, {ch(0, 5, -1)}} {
		if e := r.Apply(c); e != api.ErrArg {
			t.Errorf("Apply(%v) is %v", c, e)
		}
	}
	if len(r.Bag()) != 0 || len(r.Fronts()) != 0 {
		t.Error(r.Bag(), r.Fronts())
	}
}

// P6.1: whatever comes, it is as the Bag and Of by themselves.
func TestReachAgainstBagAndOf(t *testing.T) {
	d := dice(2)
	ended := map[api.Errno]int{}
	for range 500 {
		g := d.graph()
		paths := graph.Paths(g)
		r := reach(t, g, nil)
		var b bag.Bag
		for range 20 {
			c := d.batch(g.Ports+d.roll(2)*d.roll(2), 1, 2, most/2, most)
			// Less of what is there, so that it comes to nothing again.
			for _, x := range b {
				if batch.Of(c, x.Port, x.Time) == 0 && d.roll(2) == 0 {
					c, _ = batch.Merge(c, batch.Batch{ch(x.Port, x.Time, -x.Diff)})
				}
			}
			if d.roll(8) == 0 {
				c, _ = batch.Merge(c, batch.Batch{ch(0, 3, -1)})
			}
			then, want := bag.Apply(b, c)
			if len(c) > 0 && c[len(c)-1].Port >= g.Ports {
				want = api.ErrPort
			}
			if want == api.OK {
				b = then
			}
			if e := r.Apply(c); e != want {
				t.Fatalf("Apply(%v) to %v is %v, want %v", c, b, e, want)
			}
			ended[want]++
			is(t, r, b, fronts(paths, b)...)
		}
	}
	if ended[api.OK] < 1000 || ended[api.ErrPort] < 500 || ended[api.ErrState] < 500 || ended[api.ErrOver] < 500 {
		t.Errorf("not all of it was asked: %v", ended)
	}
}

// P6.1: of two of one Graph none knows of the other one.
func TestReachesAreApart(t *testing.T) {
	g := of(2, ed(0, 1, 3))
	one, other := reach(t, g, bag.Bag{ch(0, 5, 1)}), reach(t, g, nil)
	is(t, other, nil, never, never)
	if e := other.Apply(batch.Batch{ch(1, 2, 1)}); e != api.OK {
		t.Error(e)
	}
	is(t, one, bag.Bag{ch(0, 5, 1)}, 5, 8)
	is(t, other, bag.Bag{ch(1, 2, 1)}, never, 2)
}

// P6.2
func TestFrontsOfMoreAreNoLater(t *testing.T) {
	d := dice(3)
	for range 5000 {
		paths := graph.Paths(d.graph())
		b := d.batch(len(paths), 1, 2, 1000)
		more, e := bag.Apply(b, d.batch(len(paths), 1, 2, 1000))
		if e != api.OK {
			t.Fatal(e)
		}
		less, then := front.Of(paths, b), front.Of(paths, more)
		if len(less) != len(paths) || len(then) != len(paths) {
			t.Fatalf("%d and %d fronts of %d ports", len(less), len(then), len(paths))
		}
		for port := range less {
			if then[port] > less[port] {
				t.Fatalf("port %d: %d of %v, %d of %v", port, less[port], b, then[port], more)
			}
		}
	}
}

// P6.2: none is later than what is there, nor than another port's, and the way from there.
func TestFrontsAreNoLaterThanWhatComes(t *testing.T) {
	d := dice(4)
	for range 5000 {
		g := d.graph()
		paths, b := graph.Paths(g), d.batch(g.Ports, 1, 2, 1000)
		l := reach(t, g, b).Fronts()
		if len(l) != g.Ports {
			t.Fatalf("%d fronts of %d ports", len(l), g.Ports)
		}
		for _, x := range b {
			if l[x.Port] > x.Time {
				t.Fatalf("%v of %v: later than %v", l, b, x)
			}
		}
		for from := range l {
			for to := range l {
				if l[to] > stamp.Plus(l[from], paths[from][to]) {
					t.Fatalf("%v of %v: %d is later than %d and the way", l, b, to, from)
				}
			}
		}
		for _, x := range g.Edges {
			if l[x.To] > stamp.Plus(l[x.From], x.Add) {
				t.Fatalf("%v of %v: later than by %v", l, b, x)
			}
		}
	}
}

// P6.2: and none is earlier than something that is there lets it be.
func TestFrontsAreNoEarlierThanWhatComes(t *testing.T) {
	d := dice(5)
	for range 2000 {
		g := d.graph()
		paths, b := graph.Paths(g), d.batch(g.Ports, 1, 2, 1000)
		for port, time := range front.Of(paths, b) {
			if time != never && !slices.ContainsFunc(b, func(x change) bool { return stamp.Plus(x.Time, paths[x.Port][port]) == time }) {
				t.Fatalf("%d of %v: nothing comes there at %d", port, b, time)
			}
		}
	}
}

// P6.3
func TestOfKeepsNothing(t *testing.T) {
	paths := graph.Paths(of(2, ed(0, 1, 3)))
	b, whole := roomy([]change{ch(0, 5, 1), ch(1, 9, 1)})
	one, other := front.Of(paths, b), front.Of(paths, b)
	if !whole() || !slices.Equal(paths[0], []uint64{0, 3}) || !slices.Equal(paths[1], []uint64{never, 0}) {
		t.Errorf("%v or %v is changed", b, paths)
	}
	paths[0][1], paths[1] = 77, nil
	spoil(b)
	one = one[:cap(one)]
	for i := range one {
		one[i] = 99
	}
	if !slices.Equal(other, []uint64{5, 8}) {
		t.Errorf("the answer shares: %v", other)
	}
	// The spare room of the rows, too.
	room := []uint64{0, 3, 11, never, 0, 12}
	paths = [][]uint64{room[:2], room[3:5], {7}}[:2]
	if got := front.Of(paths, bag.Bag{ch(0, 5, 1)}); !slices.Equal(got, []uint64{5, 8}) {
		t.Error(got)
	}
	if !slices.Equal(room, []uint64{0, 3, 11, never, 0, 12}) || !slices.Equal(paths[:3][2], []uint64{7}) {
		t.Errorf("%v is changed", room)
	}
}

// P6.3
func TestNewKeepsNothing(t *testing.T) {
	edges := []graph.Edge{ed(0, 1, 3), ed(9, 9, 9)}
	inputs := []int{1, 0, 9}
	r, e := front.New(graph.Graph{Ports: 2, Edges: edges[:1], Inputs: inputs[:2]})
	if e != nil {
		t.Fatal(e)
	}
	if !slices.Equal(edges, []graph.Edge{ed(0, 1, 3), ed(9, 9, 9)}) || !slices.Equal(inputs, []int{1, 0, 9}) {
		t.Error("the Graph is changed")
	}
	edges[0], inputs[0] = ed(1, 0, 7), 1
	if e := r.Apply(batch.Batch{ch(0, 5, 1)}); e != api.OK {
		t.Fatal(e)
	}
	is(t, r, bag.Bag{ch(0, 5, 1)}, 5, 8)
}

// P6.3
func TestReachKeepsNothing(t *testing.T) {
	r := reach(t, of(2, ed(0, 1, 3)), nil)
	first, whole := roomy([]change{ch(0, 5, 1), ch(0, 6, 1)})
	if e := r.Apply(first); e != api.OK || !whole() {
		t.Fatal(e, first)
	}
	spoil(first)
	want := bag.Bag{ch(0, 5, 1), ch(0, 6, 1)}
	is(t, r, want, 5, 8)
	second, whole := roomy([]change{ch(1, 7, 2)})
	if e := r.Apply(second); e != api.OK || !whole() {
		t.Fatal(e, second)
	}
	spoil(second)
	want = append(want, ch(1, 7, 2))
	is(t, r, want, 5, 7)

	b, f := r.Bag(), r.Fronts()
	otherB, otherF := r.Bag(), r.Fronts()
	spoil(b)
	f = f[:cap(f)]
	for i := range f {
		f[i] = 99
	}
	if !slices.Equal(otherB, want) || !slices.Equal(otherF, []uint64{5, 7}) {
		t.Errorf("two answers share: %v, %v", otherB, otherF)
	}
	is(t, r, want, 5, 7)
	// An answer stays as it was, whatever comes.
	if e := r.Apply(batch.Batch{ch(0, 5, -1), ch(0, 6, 3), ch(1, 7, -2)}); e != api.OK {
		t.Fatal(e)
	}
	if !slices.Equal(otherB, want) || !slices.Equal(otherF, []uint64{5, 7}) {
		t.Errorf("answers changed: %v, %v", otherB, otherF)
	}
	is(t, r, bag.Bag{ch(0, 6, 4)}, 6, 9)
	// What it told may be handed in again.
	if e := r.Apply(r.Bag()); e != api.OK {
		t.Fatal(e)
	}
	is(t, r, bag.Bag{ch(0, 6, 8)}, 6, 9)
}

// P1: of what is no Graph's, or isn't Right, all that is asked is an end.
func TestWrongListsEnd(t *testing.T) {
	d := dice(6)
	ports := []int{math.MinInt, -1, 0, 1, 2, 63, 64, math.MaxInt}
	times := []uint64{0, 1, 1 << 63, never - 1, never}
	diffs := []int64{math.MinInt64, -most - 1, -most, -1, 0, 1, most, most + 1, math.MaxInt64}
	r := reach(t, of(2, ed(0, 1, 3)), nil)
	for range 5000 {
		var c batch.Batch
		for range d.roll(10) {
			c = append(c, ch(ports[d.roll(len(ports))], times[d.roll(len(times))], diffs[d.roll(len(diffs))]))
		}
		var paths [][]uint64
		for range d.roll(5) {
			paths = append(paths, slices.Repeat([]uint64{times[d.roll(len(times))]}, d.roll(7)))
		}
		if got := front.Of(paths, c); len(got) != len(paths) {
			t.Fatalf("Of(%v, %v) = %v", paths, c, got)
		}
		ahead := r.Bag()
		if e := r.Apply(c); !batch.Right(c) && e != api.ErrArg || e != api.OK && !slices.Equal(r.Bag(), ahead) {
			t.Fatalf("Apply(%v) to %v is %v", c, ahead, e)
		}
	}
	var none front.Reach
	none.Apply(batch.Batch{ch(0, 5, 1)})
	none.Bag()
	none.Fronts()
}
