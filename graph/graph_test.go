package graph_test

import (
	"errors"
	"math"
	"math/big"
	"slices"
	"testing"

	"marchland/api"
	"marchland/fault"
	"marchland/graph"
	"marchland/stamp"
)

type edge = graph.Edge

// ed is an Edge in short.
func ed(from, to int, add uint64) edge { return edge{From: from, To: to, Add: add} }

// of is a Graph of so many ports, with one input.
func of(ports int, edges ...edge) graph.Graph {
	return graph.Graph{Ports: ports, Edges: edges, Inputs: []int{0}}
}

// dice is a row of numbers that is the same each time.
type dice uint64

func (d *dice) roll(n int) int {
	*d = *d*6364136223846793005 + 1442695040888963407
	return int(uint64(*d)>>33) % n
}

// graph makes a small one, with adds that are near to where sums turn.
func (d *dice) graph() graph.Graph {
	adds := []uint64{0, 0, 0, 1, 2, 3, 5, 1 << 32, 1<<63 - 1, 1 << 63, api.Never - 3, api.Never - 2, api.Never - 1, api.Never}
	g := of(1 + d.roll(5))
	for range d.roll(9) {
		g.Edges = append(g.Edges, ed(d.roll(g.Ports), d.roll(g.Ports), adds[d.roll(len(adds))]))
	}
	return g
}

// full is a Graph with so many edges, and no way round: each goes on by 1.
func full(edges int) graph.Graph {
	g := of(64)
	for i := range edges {
		g.Edges = append(g.Edges, ed(i%63, i%63+1, 1))
	}
	return g
}

// walk goes all ways that come to no port twice, and reckons without any bound;
// each tells where it comes to, at last perhaps where it began.
func walk(g graph.Graph, at int, sum *big.Int, seen map[int]bool, come func(to int, sum *big.Int)) {
	for _, x := range g.Edges {
		if x.From != at || x.Add == api.Never {
			continue
		}
		on := new(big.Int).Add(sum, new(big.Int).SetUint64(x.Add))
		come(x.To, on)
		if !seen[x.To] {
			seen[x.To] = true
			walk(g, x.To, on, seen, come)
			delete(seen, x.To)
		}
	}
}

// paths goes all the ways there are; cycle is the least port at which a way round takes 0, or -1.
func paths(g graph.Graph) (least [][]uint64, cycle int) {
	cycle = -1
	for from := range g.Ports {
		row := slices.Repeat([]uint64{api.Never}, g.Ports)
		row[from] = 0
		walk(g, from, new(big.Int), map[int]bool{from: true}, func(to int, sum *big.Int) {
			if to == from && sum.Sign() == 0 && cycle < 0 {
				cycle = from
			}
			if sum.IsUint64() {
				row[to] = min(row[to], sum.Uint64())
			}
		})
		least = append(least, row)
	}
	return least, cycle
}

func same(a, b [][]uint64) bool { return slices.EqualFunc(a, b, slices.Equal) }

// refused holds a Graph against the error that it should have, and its place.
func refused(t *testing.T, name string, g graph.Graph, kind api.Errno, path ...fault.Place) {
	t.Helper()
	e := graph.Check(g)
	if fault.Kind(e) != kind || !slices.Equal(fault.Path(e), path) {
		t.Errorf("%s: %s, want %v at %v", name, fault.Text(e), kind, path)
	}
	if kind != api.OK && !errors.Is(e, kind) {
		t.Errorf("%s: %v isn't %v", name, e, kind)
	}
	if p := graph.Paths(g); (len(p) == 0) != (kind != api.OK) {
		t.Errorf("%s: %d rows of Paths beside %s", name, len(p), fault.Text(e))
	}
}

func place(what string, n int) fault.Place { return fault.Place{What: what, N: n} }

// P5.1
func TestCheckPorts(t *testing.T) {
	for _, ports := range []int{0, -1, 65, 66, 128, 1000, 1 << 32, math.MinInt, math.MaxInt} {
		refused(t, "ports", of(ports), api.ErrPort)
		// Ahead of whatever else there is.
		refused(t, "ports first", graph.Graph{Ports: ports, Edges: slices.Repeat([]edge{ed(-1, 70, 0)}, 257), Inputs: []int{-1}}, api.ErrPort)
	}
	refused(t, "none at all", graph.Graph{}, api.ErrPort)
	for _, ports := range []int{1, 2, 63, 64} {
		refused(t, "ports", of(ports), api.OK)
		if e := graph.Check(of(ports)); e != nil {
			t.Error(e)
		}
		if p := graph.Paths(of(ports)); len(p) != ports || len(p[ports-1]) != ports {
			t.Errorf("%d ports: %d rows", ports, len(p))
		}
	}
}

// P5.1
func TestCheckManyEdges(t *testing.T) {
	for _, n := range []int{0, 1, 255, 256} {
		refused(t, "edges", full(n), api.OK)
	}
	for _, n := range []int{257, 258, 512, 1000} {
		refused(t, "edges", full(n), api.ErrMany)
	}
	// Ahead of what the edges are, and of the inputs.
	refused(t, "many first", graph.Graph{Ports: 2, Edges: slices.Repeat([]edge{ed(2, 2, 0)}, 257), Inputs: []int{2}}, api.ErrMany)
	refused(t, "the last of 256", graph.Graph{Ports: 64, Edges: append(full(255).Edges, ed(0, 64, 1))}, api.ErrPort, place("edge", 255), place("to", 64))
}

// P5.1
func TestCheckEdges(t *testing.T) {
	for _, wrong := range []int{-1, 3, 4, 63, 64, math.MinInt, math.MaxInt} {
		for i := range 4 {
			edges := []edge{ed(0, 1, 1), ed(1, 2, 1), ed(2, 0, 1), ed(2, 2, 1)}
			edges[i].From = wrong
			refused(t, "from", of(3, edges...), api.ErrPort, place("edge", i), place("from", wrong))
			edges[i].To = 99 // of one edge From is the first
			refused(t, "both", of(3, edges...), api.ErrPort, place("edge", i), place("from", wrong))
			edges[i].From, edges[i].To = 0, wrong
			refused(t, "to", of(3, edges...), api.ErrPort, place("edge", i), place("to", wrong))
			edges = append(edges, ed(77, 88, 0)) // the first edge counts
			refused(t, "to", of(3, edges...), api.ErrPort, place("edge", i), place("to", wrong))
		}
	}
	// One edge's To goes ahead of the next one's From.
	refused(t, "to, from", of(2, ed(0, 2, 1), ed(2, 0, 1)), api.ErrPort, place("edge", 0), place("to", 2))
	// Edges go ahead of inputs, and of ways round.
	refused(t, "edges, inputs", graph.Graph{Ports: 1, Edges: []edge{ed(0, 0, 0), ed(0, 1, 0)}}, api.ErrPort, place("edge", 1), place("to", 1))
	refused(t, "edges, inputs", graph.Graph{Ports: 1, Edges: []edge{ed(0, 0, 0), ed(-1, 0, 0)}, Inputs: []int{5}}, api.ErrPort, place("edge", 1), place("from", -1))
	// What an edge takes is no matter of ports.
	refused(t, "never", of(1, ed(1, 0, api.Never)), api.ErrPort, place("edge", 0), place("from", 1))
	if s := graph.Check(of(9, ed(0, 1, 1), ed(0, 1, 1), ed(0, 1, 1), ed(0, 9, 1))).Error(); s != "edge 3: to 9: port" {
		t.Error(s)
	}
}

// P5.1
func TestCheckInputs(t *testing.T) {
	with := func(ports int, inputs ...int) graph.Graph { return graph.Graph{Ports: ports, Inputs: inputs} }
	refused(t, "none", with(64), api.ErrMany)
	refused(t, "none", graph.Graph{Ports: 1, Inputs: []int{}}, api.ErrMany)
	refused(t, "one", with(1, 0), api.OK)
	refused(t, "8", with(8, 7, 6, 5, 4, 3, 2, 1, 0), api.OK)
	refused(t, "8", with(64, 63, 0, 1, 62, 31, 32, 2, 61), api.OK)
	refused(t, "9", with(64, 0, 1, 2, 3, 4, 5, 6, 7, 8), api.ErrMany)
	refused(t, "many first", with(2, 0, 0, 9, -1, 0, 1, 2, 3, 4), api.ErrMany)
	for _, wrong := range []int{-1, 3, 64, math.MinInt, math.MaxInt} {
		refused(t, "port", with(3, wrong), api.ErrPort, place("input", 0))
		refused(t, "port", with(3, 2, wrong), api.ErrPort, place("input", 1))
		refused(t, "port", with(3, 2, 1, wrong, wrong), api.ErrPort, place("input", 2))
		refused(t, "same ahead", with(3, 2, 2, wrong), api.ErrArg, place("input", 1))
		refused(t, "port ahead", with(3, 2, wrong, 2), api.ErrPort, place("input", 1))
	}
	refused(t, "same", with(3, 0, 0), api.ErrArg, place("input", 1))
	refused(t, "same", with(3, 2, 1, 2), api.ErrArg, place("input", 2))
	refused(t, "same", with(8, 0, 1, 2, 3, 4, 5, 6, 6), api.ErrArg, place("input", 7))
	refused(t, "same", with(8, 0, 1, 2, 3, 4, 5, 6, 0), api.ErrArg, place("input", 7))
	// Inputs go ahead of ways round.
	round := []edge{ed(0, 0, 0)}
	refused(t, "none, round", graph.Graph{Ports: 1, Edges: round}, api.ErrMany)
	refused(t, "port, round", graph.Graph{Ports: 1, Edges: round, Inputs: []int{1}}, api.ErrPort, place("input", 0))
	refused(t, "same, round", graph.Graph{Ports: 1, Edges: round, Inputs: []int{0, 0}}, api.ErrArg, place("input", 1))
	refused(t, "round", graph.Graph{Ports: 1, Edges: round, Inputs: []int{0}}, api.ErrCycle, place("port", 0))
}

// P5.1: one fault after the other is mended, in the order of the document.
func TestCheckOrder(t *testing.T) {
	g := graph.Graph{Ports: 65, Edges: append([]edge{ed(4, -1, 0), ed(2, 1, 0), ed(1, 2, 0)}, full(254).Edges...)}
	for _, c := range []struct {
		want string
		mend func()
	}{
		{"port", func() { g.Ports = 4 }},
		{"many", func() { g.Edges = g.Edges[:3] }},
		{"edge 0: from 4: port", func() { g.Edges[0].From = 0 }},
		{"edge 0: to -1: port", func() { g.Edges[0].To = 1; g.Edges[2].From = 5 }},
		{"edge 2: from 5: port", func() { g.Edges[2].From = 1 }},
		{"many", func() { g.Inputs = []int{3, 3, 9, 3, 3, 3, 3, 3, 3} }},
		{"many", func() { g.Inputs = g.Inputs[:3] }},
		{"input 1: argument", func() { g.Inputs[1] = 0 }},
		{"input 2: port", func() { g.Inputs[2] = 2 }},
		{"port 1: cycle", func() { g.Edges[1].Add = 1 }},
		{"ok", func() {}},
	} {
		if s := fault.Text(graph.Check(g)); s != c.want {
			t.Errorf("%s, want %s", s, c.want)
		}
		c.mend()
	}
}

// P5.1
func TestCheckCycles(t *testing.T) {
	const half = 1 << 63
	for _, c := range []struct {
		name string
		g    graph.Graph
		port int // -1: there is none
	}{
		{"an edge to itself", of(1, ed(0, 0, 0)), 0},
		{"an edge to itself of 1", of(1, ed(0, 0, 1)), -1},
		{"an edge to itself of Never", of(1, ed(0, 0, api.Never)), -1},
		{"two to itself", of(1, ed(0, 0, 1), ed(0, 0, 0)), 0},
		{"no edge", of(64), -1},
		{"there and back", of(2, ed(0, 1, 0), ed(1, 0, 0)), 0},
		{"there and back by 1", of(2, ed(0, 1, 0), ed(1, 0, 1)), -1},
		{"there by 1 and back", of(2, ed(0, 1, 1), ed(1, 0, 0)), -1},
		{"there and never back", of(2, ed(0, 1, 0), ed(1, 0, api.Never)), -1},
		{"there alone", of(2, ed(0, 1, 0)), -1},
		{"there twice", of(2, ed(0, 1, 0), ed(0, 1, 0)), -1},
		{"a port ahead of it", of(3, ed(0, 1, 0), ed(1, 2, 0), ed(2, 1, 0)), 1},
		{"a port behind it", of(3, ed(0, 1, 0), ed(1, 0, 0), ed(1, 2, 0)), 0},
		{"the last one", of(64, ed(63, 63, 0)), 63},
		{"the least of two", of(9, ed(8, 8, 0), ed(5, 5, 0)), 5},
		{"the least of a way round", of(9, ed(8, 5, 0), ed(5, 7, 0), ed(7, 8, 0)), 5},
		{"the least of two ways round", of(9, ed(2, 8, 0), ed(8, 2, 0), ed(3, 4, 0), ed(4, 3, 0)), 2},
		{"by the shorter edge", of(2, ed(0, 1, 3), ed(0, 1, 0), ed(0, 1, 9), ed(1, 0, 0)), 0},
		{"a sum that would wrap to 0", of(2, ed(0, 1, half), ed(1, 0, half)), -1},
		{"a sum that would wrap to 0", of(2, ed(0, 1, 1), ed(1, 0, api.Never)), -1},
		{"a rhombus", of(4, ed(0, 1, 0), ed(0, 2, 0), ed(1, 3, 0), ed(2, 3, 0)), -1},
		{"a rhombus, and back", of(4, ed(0, 1, 0), ed(0, 2, 0), ed(1, 3, 0), ed(2, 3, 0), ed(3, 1, 0)), 1},
		{"an eight", of(5, ed(4, 2, 0), ed(2, 3, 0), ed(3, 4, 1), ed(2, 1, 0), ed(1, 2, 0)), 1},
	} {
		if c.port < 0 {
			refused(t, c.name, c.g, api.OK)
		} else {
			refused(t, c.name, c.g, api.ErrCycle, place("port", c.port))
		}
	}
}

// ring is a way round through all 64 ports, against their order.
func ring(last uint64) graph.Graph {
	g := of(64)
	for port := range 64 {
		g.Edges = append(g.Edges, ed(port, (port+63)%64, 0))
	}
	g.Edges[17].Add = last
	return g
}

// P5.1
func TestLongWays(t *testing.T) {
	refused(t, "round of 0", ring(0), api.ErrCycle, place("port", 0))
	refused(t, "round of 1", ring(1), api.OK)
	p := graph.Paths(ring(1))
	if p[17][17] != 0 || p[17][16] != 1 || p[17][18] != 1 || p[18][17] != 0 || p[16][17] != 0 || p[0][63] != 0 || p[63][0] != 1 {
		t.Errorf("round of 1: %v", p)
	}
	g := of(64)
	for port := range 63 {
		g.Edges = append(g.Edges, ed(port, port+1, uint64(port)+1), ed(port, port+1, uint64(port)+5))
	}
	p = graph.Paths(g)
	for from := range 64 {
		for to := range 64 {
			want := api.Never
			if from <= to {
				want = uint64((to*(to+1) - from*(from+1)) / 2)
			}
			if p[from][to] != want {
				t.Fatalf("from %d to %d: %d, want %d", from, to, p[from][to], want)
			}
		}
	}
}

// P5.1
func TestPaths(t *testing.T) {
	const never = api.Never
	for _, c := range []struct {
		name string
		g    graph.Graph
		want [][]uint64
	}{
		{"one port", of(1), [][]uint64{{0}}},
		{"one port, to itself", of(1, ed(0, 0, 7)), [][]uint64{{0}}},
		{"no edge", of(2), [][]uint64{{0, never}, {never, 0}}},
		{"the document's", of(2, ed(0, 1, 0), ed(1, 0, 1)), [][]uint64{{0, 0}, {1, 0}}},
		{"one way", of(2, ed(0, 1, 3)), [][]uint64{{0, 3}, {never, 0}}},
		{"the other way", of(2, ed(1, 0, 3)), [][]uint64{{0, never}, {3, 0}}},
		{"the least of several", of(2, ed(0, 1, 5), ed(0, 1, 3), ed(0, 1, never), ed(0, 1, 4)), [][]uint64{{0, 3}, {never, 0}}},
		{"nobody goes there", of(2, ed(0, 1, never)), [][]uint64{{0, never}, {never, 0}}},
		{"next to Never", of(2, ed(0, 1, never-1)), [][]uint64{{0, never - 1}, {never, 0}}},
		{"round about", of(3, ed(0, 2, 9), ed(0, 1, 3), ed(1, 2, 4)), [][]uint64{{0, 3, 7}, {never, 0, 4}, {never, never, 0}}},
		{"straight on", of(3, ed(0, 2, 6), ed(0, 1, 3), ed(1, 2, 4)), [][]uint64{{0, 3, 6}, {never, 0, 4}, {never, never, 0}}},
		{"a sum next to Never", of(3, ed(0, 1, never-3), ed(1, 2, 2)), [][]uint64{{0, never - 3, never - 1}, {never, 0, 2}, {never, never, 0}}},
		{"a sum that is Never's number", of(3, ed(0, 1, never-3), ed(1, 2, 3)), [][]uint64{{0, never - 3, never}, {never, 0, 3}, {never, never, 0}}},
		{"a sum that would wrap", of(3, ed(0, 1, never-3), ed(1, 2, 9)), [][]uint64{{0, never - 3, never}, {never, 0, 9}, {never, never, 0}}},
		{"a sum that would wrap to 0", of(3, ed(0, 1, 1<<63), ed(1, 2, 1<<63)), [][]uint64{{0, 1 << 63, never}, {never, 0, 1 << 63}, {never, never, 0}}},
		{"a sum that isn't a time, and one that is", of(3, ed(0, 1, never-1), ed(1, 2, 1), ed(0, 2, never-1)), [][]uint64{{0, never - 1, never - 1}, {never, 0, 1}, {never, never, 0}}},
		{"Never between", of(3, ed(0, 1, never), ed(1, 2, 0)), [][]uint64{{0, never, never}, {never, 0, 0}, {never, never, 0}}},
		{"times have no sign", of(2, ed(0, 1, 1<<63), ed(0, 1, 1<<63-1)), [][]uint64{{0, 1<<63 - 1}, {never, 0}}},
		{"back by the great number", of(3, ed(2, 1, 1), ed(1, 0, 1), ed(0, 2, 1)), [][]uint64{{0, 2, 1}, {1, 0, 2}, {2, 1, 0}}},
	} {
		refused(t, c.name, c.g, api.OK)
		if got := graph.Paths(c.g); !same(got, c.want) {
			t.Errorf("%s: %v, want %v", c.name, got, c.want)
		}
	}
}

// P5.1: the inputs have nothing to do with how far it is.
func TestPathsOfOtherInputs(t *testing.T) {
	g := of(3, ed(0, 1, 2), ed(1, 2, 3))
	want := graph.Paths(g)
	g.Inputs = []int{2, 1}
	if got := graph.Paths(g); len(got) != 3 || !same(got, want) {
		t.Errorf("%v, want %v", got, want)
	}
}

// P5.1: nothing, if Check has an error.
func TestPathsOfWhatMayNotBe(t *testing.T) {
	for _, g := range []graph.Graph{
		{},
		{Ports: 1},
		{Ports: 2, Edges: []edge{ed(0, 1, 1)}},
		{Ports: 65, Inputs: []int{0}},
		{Ports: -1, Inputs: []int{0}},
		of(2, ed(0, 2, 1)),
		of(2, ed(-1, 0, 1)),
		{Ports: 2, Inputs: []int{1, 1}},
		{Ports: 2, Inputs: []int{2}},
		of(2, ed(1, 1, 0)),
		full(257),
	} {
		if p := graph.Paths(g); len(p) != 0 || graph.Check(g) == nil {
			t.Errorf("%v: %v", g, p)
		}
	}
}

// P5.1: against all the ways that there are.
func TestAgainstAllWays(t *testing.T) {
	d := dice(1)
	cycles := 0
	for range 20000 {
		g := d.graph()
		want, cycle := paths(g)
		if cycle >= 0 {
			cycles++
			refused(t, "round", g, api.ErrCycle, place("port", cycle))
			continue
		}
		refused(t, "no round", g, api.OK)
		if got := graph.Paths(g); !same(got, want) {
			t.Fatalf("%v: %v, want %v", g, got, want)
		}
	}
	if cycles < 1000 || cycles > 19000 {
		t.Errorf("%d ways round of 20000", cycles)
	}
}

// P5.1: in whatever order edges are, it is as far.
func TestPathsInAnyOrder(t *testing.T) {
	d := dice(2)
	for range 2000 {
		g := d.graph()
		want, e := graph.Paths(g), fault.Text(graph.Check(g))
		slices.Reverse(g.Edges)
		if !same(graph.Paths(g), want) || fault.Text(graph.Check(g)) != e {
			t.Fatalf("%v hangs on the order", g)
		}
	}
}

// P5.2
func TestByOneMorePortItIsNeverShorter(t *testing.T) {
	d := dice(3)
	asked := 0
	for range 3000 {
		g := d.graph()
		if d.roll(10) == 0 {
			g = of(64)
			for range 256 {
				g.Edges = append(g.Edges, ed(d.roll(64), d.roll(64), 1+uint64(d.roll(50))))
			}
		}
		p := graph.Paths(g)
		if graph.Check(g) == nil && len(p) != g.Ports {
			t.Fatalf("%v: no Paths", g)
		}
		for from := range p {
			for between := range p {
				for to := range p {
					asked++
					if p[from][to] > stamp.Plus(p[from][between], p[between][to]) {
						t.Fatalf("%v: from %d by %d to %d it is shorter", g, from, between, to)
					}
				}
			}
		}
		for _, x := range g.Edges {
			if len(p) > 0 && p[x.From][x.To] > x.Add {
				t.Fatalf("%v: by %v it is shorter", g, x)
			}
		}
	}
	if asked < 1000000 {
		t.Errorf("only %d were asked", asked)
	}
}

// roomy is a Graph with something in the spare room of its lists; whole tells whether all is as it was.
func roomy(g graph.Graph) (copied graph.Graph, whole func() bool) {
	edges := append(slices.Clone(g.Edges), ed(11, 11, 0), ed(12, 12, 0))
	inputs := append(slices.Clone(g.Inputs), 11, 12)
	keptEdges, keptInputs := slices.Clone(edges), slices.Clone(inputs)
	copied = graph.Graph{Ports: g.Ports, Edges: edges[:len(g.Edges)], Inputs: inputs[:len(g.Inputs)]}
	return copied, func() bool { return slices.Equal(edges, keptEdges) && slices.Equal(inputs, keptInputs) }
}

// P5.3
func TestWhatIsHandedInStays(t *testing.T) {
	d := dice(4)
	for range 1000 {
		g, whole := roomy(d.graph())
		graph.Check(g)
		graph.Paths(g)
		if !whole() {
			t.Fatalf("%v is changed", g)
		}
	}
	for _, g := range []graph.Graph{{}, {Ports: 1}, full(257), of(2, ed(5, 5, 5)), {Ports: 3, Inputs: []int{2, 1, 2}}, {Ports: 3, Inputs: []int{2, 1, 0}}, of(3, ed(2, 1, 3), ed(1, 0, 0), ed(0, 1, 0))} {
		g, whole := roomy(g)
		graph.Check(g)
		graph.Paths(g)
		if !whole() {
			t.Errorf("%v is changed", g)
		}
	}
}

// P5.3
func TestPathsAreNewMemory(t *testing.T) {
	g := of(3, ed(0, 1, 2), ed(1, 2, 3), ed(2, 0, 4))
	want := [][]uint64{{0, 2, 5}, {7, 0, 3}, {4, 6, 0}}
	first, second := graph.Paths(g), graph.Paths(g)
	for i := range first {
		// No row is another one's spare room.
		row := first[i][:cap(first[i])]
		for j := range row {
			row[j] = 99
		}
		for k := range first {
			if k > i && !slices.Equal(first[k], want[k]) {
				t.Errorf("row %d shares with row %d", k, i)
			}
		}
	}
	clear(first[:cap(first)])
	if !same(second, want) || !same(graph.Paths(g), want) {
		t.Errorf("two answers share: %v", second)
	}
	g.Edges[0].Add, g.Inputs[0] = 77, 2
	if !same(second, want) {
		t.Errorf("an answer shares with the Graph: %v", second)
	}
}

// P1
func TestAnyGraphEnds(t *testing.T) {
	d := dice(5)
	ports := []int{math.MinInt, -1, 0, 1, 2, 3, 63, 64, 65, math.MaxInt}
	pick := func() int { return ports[d.roll(len(ports))] }
	adds := []uint64{0, 1, 1 << 63, api.Never - 1, api.Never}
	for range 5000 {
		g := graph.Graph{Ports: pick()}
		for range d.roll(5) {
			g.Edges = append(g.Edges, ed(pick(), pick(), adds[d.roll(len(adds))]))
		}
		for range d.roll(5) {
			g.Inputs = append(g.Inputs, pick())
		}
		e := graph.Check(g)
		if k := fault.Kind(e); k != api.OK && k != api.ErrPort && k != api.ErrMany && k != api.ErrArg && k != api.ErrCycle {
			t.Fatalf("%v: %v", g, e)
		}
		if p := graph.Paths(g); e != nil && len(p) != 0 || e == nil && len(p) != g.Ports {
			t.Fatalf("%v: %v beside %v", g, p, e)
		}
	}
}

// Edges compare by ==.
func TestEdgesCompare(t *testing.T) {
	if ed(1, 2, 3) != ed(1, 2, 3) || ed(1, 2, 3) == ed(1, 2, 4) {
		t.Error("Edges compare by ==")
	}
}
