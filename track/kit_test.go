package track_test

import (
	"slices"
	"testing"

	"marchland/api"
	"marchland/bag"
	"marchland/batch"
	"marchland/claim"
	"marchland/clock"
	"marchland/fault"
	"marchland/front"
	"marchland/graph"
	"marchland/hist"
	"marchland/mem"
	"marchland/model"
	"marchland/track"
)

type (
	op     = model.Op
	answer = model.Answer
	change = batch.Change
	edges  = []graph.Edge
)

const never = api.Never

// Things to do, in short. Whose they are is told apart.
var (
	fronts = op{Kind: model.Fronts}
	shut   = op{Kind: model.Shut}
)

func open(hand int) op { return op{Kind: model.Open, Hand: hand} }

func advance(hand int, time uint64) op { return op{Kind: model.Advance, Hand: hand, Time: time} }

func shutHand(hand int) op { return op{Kind: model.Close, Hand: hand} }

func update(l ...change) op { return op{Kind: model.Update, L: l} }

func done(port int, time uint64) op { return op{Kind: model.Done, Port: port, Time: time} }

func wait(port int, time uint64) op { return op{Kind: model.Wait, Port: port, Time: time} }

func ch(port int, time uint64, diff int64) change { return change{Port: port, Time: time, Diff: diff} }

func hd(id, port int, time uint64) claim.Hand { return claim.Hand{Id: id, Port: port, Time: time} }

// Answers, in short.
var fine answer

func num(n int) answer { return answer{N: n} }

func no(e api.Errno) answer { return answer{Err: e} }

func times(l ...uint64) answer { return answer{Times: l} }

// dice is a row of numbers that is the same each time.
type dice uint64

func (d *dice) roll(n int) int {
	*d = *d*6364136223846793005 + 1442695040888963407
	return int(uint64(*d)>>33) % n
}

func pick[T any](d *dice, l []T) T { return l[d.roll(len(l))] }

// plan is one of a Graph of some ports, edges and inputs, and as little as there may be of all else but threads.
func plan(threads, ports int, e edges, inputs ...int) model.Plan {
	return model.Plan{Graph: graph.Graph{Ports: ports, Edges: e, Inputs: inputs}, Threads: threads, Ring: 1, Shards: 1, Tries: 1}
}

// one is of one port and one thread; two of two of both, an input for each, 3 from the one to the other.
func one() model.Plan { return plan(1, 1, nil, 0) }

func two() model.Plan { return plan(2, 2, edges{{From: 0, To: 1, Add: 3}}, 0, 1) }

func room(p model.Plan, ring, shards, tries int) model.Plan {
	p.Ring, p.Shards, p.Tries = ring, shards, tries
	return p
}

// kit is a Track of a plan.
type kit struct {
	t     *testing.T
	p     model.Plan
	x     *track.Track
	bound int
}

func made(t *testing.T, p model.Plan) *kit {
	t.Helper()
	x, e := track.New(p)
	if e != nil || x == nil {
		t.Fatalf("New of %v: %v", p, e)
	}
	return &kit{t: t, p: p, x: x, bound: track.Bound(p)}
}

// begin begins something of a thread's; of the one behind all threads a Sweep.
func (k *kit) begin(who int, o op) *track.Act {
	k.t.Helper()
	a := k.x.Sweep
	if who < k.p.Threads {
		a = func() *track.Act { return k.x.Do(who, o) }
	}
	now := a()
	if now == nil {
		k.t.Fatalf("%d begins nothing: %v", who, o)
	}
	return now
}

// end steps an act till it is over.
func (k *kit) end(a *track.Act) *track.Act {
	k.t.Helper()
	for i := 0; !a.Step(); i++ {
		if i == k.bound {
			k.t.Fatalf("it isn't over within %d Steps: %v", i, k.x.Log())
		}
	}
	return a
}

// do does something, and holds what is answered.
func (k *kit) do(who int, o op, want answer) *track.Act {
	k.t.Helper()
	a := k.end(k.begin(who, o))
	if got := a.Answer(); !model.Same(got, want) {
		k.t.Fatalf("%d, %v: %v, want %v", who, o, got, want)
	}
	if e := a.Fault(); fault.Kind(e) != want.Err {
		k.t.Fatalf("%d, %v: %v, want %v", who, o, e, want.Err)
	}
	return a
}

// sweep goes round once, and holds what is folded.
func (k *kit) sweep(want ...change) *track.Act {
	k.t.Helper()
	a := k.end(k.begin(k.p.Threads, op{}))
	if got := a.Folded(); !batch.Same(got, want) {
		k.t.Fatalf("a Sweep folded %v, want %v", got, want)
	}
	return a
}

// asleep steps a Wait till it sleeps.
func (k *kit) asleep(who int, o op) *track.Act {
	k.t.Helper()
	a := k.begin(who, o)
	k.sleeps(a)
	return a
}

func (k *kit) sleeps(a *track.Act) {
	k.t.Helper()
	for i := 0; !a.Asleep(); i++ {
		if a.Step() || i == k.bound {
			k.t.Fatalf("it doesn't sleep: %v", k.x.Log())
		}
	}
	if a.Over() {
		k.t.Fatal("it sleeps, and is over")
	}
}

func sameOwn(a, b claim.Own) bool {
	return slices.Equal(a.Hands, b.Hands) && batch.Same(a.Held, b.Held)
}

func (k *kit) owns(who int, hands []claim.Hand, held ...change) {
	k.t.Helper()
	if got := k.x.Own(who); !sameOwn(got, claim.Own{Hands: hands, Held: held}) {
		k.t.Errorf("%d has %v, want %v, %v", who, got, hands, held)
	}
}

func sameEntry(a, b hist.Entry) bool {
	return a.Who == b.Who && a.Begin == b.Begin && a.Mark == b.Mark && a.End == b.End && sameOp(a.Op, b.Op) && model.Same(a.Answer, b.Answer)
}

func sameOp(a, b op) bool {
	l := slices.Equal(a.L, b.L)
	return l && a.Kind == b.Kind && a.Who == b.Who && a.Hand == b.Hand && a.Port == b.Port && a.Time == b.Time && a.Way == b.Way
}

// said is an Entry in short: that is over, but where there is no Mark.
type said struct {
	who int
	o   op
	a   answer
}

// tells holds the last Entries of the Log, and that each has a Mark and is over.
func (k *kit) tells(want ...said) {
	k.t.Helper()
	l := k.x.Log()
	if len(l) < len(want) {
		k.t.Fatalf("of %d Entries: %v", len(want), l)
	}
	for i, x := range l[len(l)-len(want):] {
		if w := want[i]; x.Who != w.who || !sameOp(x.Op, w.o) || !model.Same(x.Answer, w.a) || x.Mark == 0 || x.End == 0 {
			k.t.Fatalf("Entry %d: %v, want %v", i, x, w)
		}
	}
}

// right holds the Log against layer 15: P16.2.
func (k *kit) right() {
	k.t.Helper()
	l := k.x.Log()
	if !hist.Right(k.p.Threads, l) {
		k.t.Fatalf("not Right: %v", l)
	}
	if i := hist.Check(k.p, l); i != -1 {
		k.t.Fatalf("%d: in another order: %v", i, l)
	}
	if !slices.IsSortedFunc(l, func(a, b hist.Entry) int { return a.Begin - b.Begin }) {
		k.t.Fatalf("not in the order in which it began: %v", l)
	}
}

// apart holds the accesses against layer 9: P16.5.
func (k *kit) apart() {
	k.t.Helper()
	if i, j := clock.Race(k.x.Mem().Log()); i != -1 || j != -1 {
		k.t.Fatalf("a Race of %d and %d", i, j)
	}
}

// free: is each latch nobody's?
func (k *kit) free() {
	k.t.Helper()
	for l := range 64 {
		if who := k.x.Mem().Holder(l); who != -1 {
			k.t.Fatalf("latch %d is %d's: %v", l, who, k.x.Log())
		}
	}
}

// all is what all threads hold.
func (k *kit) all() bag.Bag {
	var all bag.Bag
	for who := range k.p.Threads {
		all, _ = batch.Merge(all, claim.All(k.x.Own(who)))
	}
	return all
}

func (k *kit) fronts() []uint64 { return front.Of(graph.Paths(k.p.Graph), k.all()) }

// marked is the Log's Entries that took effect, rising by their Marks.
func marked(l []hist.Entry) []hist.Entry {
	l = slices.DeleteFunc(slices.Clone(l), func(x hist.Entry) bool { return x.Mark == 0 })
	slices.SortFunc(l, func(a, b hist.Entry) int { return a.Mark - b.Mark })
	return l
}

// safe goes through the Log in the order of the Marks, by a Model: no front of what is held goes back, what is shown is
// above none, and what a Done or a Wait said has gone by: P16.3, P3. It tells what the Model is like then.
func (k *kit) safe() *model.Model {
	m, _ := model.New(k.p)
	paths := graph.Paths(k.p.Graph)
	held := front.Of(paths, m.All())
	gone := map[int]uint64{}
	for _, x := range marked(k.x.Log()) {
		a := m.Do(x.Op)
		if a.N == 1 && (x.Op.Kind == model.Done || x.Op.Kind == model.Wait) {
			gone[x.Op.Port] = max(gone[x.Op.Port], x.Op.Time)
		}
		now, shown := front.Of(paths, m.All()), m.Shown()
		for port, time := range now {
			said, any := gone[port]
			if time < held[port] || shown[port] > time || any && time <= said {
				k.t.Fatalf("behind %v: at %d %d, it was %d, shown is %d, and gone by has %d", x, port, time, held[port], shown[port], said)
			}
		}
		held = now
	}
	return m
}

// has is the latches that who has behind the access with which the time was so.
func (k *kit) has(who, time int) []int {
	var l []int
	for _, e := range k.x.Mem().Log()[:time] {
		if e.Who != who || !e.Ok {
			continue
		}
		switch e.Kind {
		case mem.Take:
			l = append(l, e.At)
		case mem.Free, mem.Sleep:
			l = slices.DeleteFunc(l, func(latch int) bool { return latch == e.At })
		}
	}
	return l
}
