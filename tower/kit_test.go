package tower_test

import (
	"slices"
	"testing"

	"marchland/api"
	"marchland/bag"
	"marchland/batch"
	"marchland/claim"
	"marchland/clock"
	"marchland/front"
	"marchland/graph"
	"marchland/hist"
	"marchland/model"
	"marchland/tower"
	"marchland/track"
)

type (
	cmd    = tower.Cmd
	op     = model.Op
	answer = model.Answer
	change = batch.Change
	edges  = []graph.Edge
	progs  = [][]cmd
)

const never = api.Never

// Cmds, in short: of a handle in a place.
var (
	fronts = cmd{Kind: model.Fronts}
	shut   = cmd{Kind: model.Shut}
)

func open(hand int) cmd { return cmd{Kind: model.Open, Hand: hand} }

func advance(hand int, time uint64) cmd { return cmd{Kind: model.Advance, Hand: hand, Time: time} }

func shutHand(hand int) cmd { return cmd{Kind: model.Close, Hand: hand} }

func update(l ...change) cmd { return cmd{Kind: model.Update, L: l} }

func done(port int, time uint64) cmd { return cmd{Kind: model.Done, Port: port, Time: time} }

func wait(port int, time uint64) cmd { return cmd{Kind: model.Wait, Port: port, Time: time} }

func ch(port int, time uint64, diff int64) change { return change{Port: port, Time: time, Diff: diff} }

// Answers, in short.
func num(n int) answer { return answer{N: n} }

func no(e api.Errno) answer { return answer{Err: e} }

func times(l ...uint64) answer { return answer{Times: l} }

// dice is a row of numbers that is the same each time.
type dice uint64

func (d *dice) roll(n int) int {
	*d = *d*6364136223846793005 + 1442695040888963407
	return int(uint64(*d)>>33) % n
}

func pick[T any](d *dice, l []T) T { return l[d.roll(len(l))] }

// plan is one of a Graph of some ports, edges and inputs, and as little as there may be of all else but threads.
func plan(threads, ports int, e edges, inputs ...int) model.Plan {
	return model.Plan{Graph: graph.Graph{Ports: ports, Edges: e, Inputs: inputs}, Threads: threads, Ring: 1, Shards: 1, Tries: 1}
}

// one is of one port and one thread; two of two of both, an input for each, 3 from the one to the other.
func one() model.Plan { return plan(1, 1, nil, 0) }

func two() model.Plan { return plan(2, 2, edges{{From: 0, To: 1, Add: 3}}, 0, 1) }

func room(p model.Plan, ring, shards, tries int) model.Plan {
	p.Ring, p.Shards, p.Tries = ring, shards, tries
	return p
}

// wide is a plan of as much as there may be.
func wide() model.Plan {
	p := room(plan(8, 64, nil, 0, 9, 18, 27, 36, 45, 54, 63), 64, 8, 8)
	for port := range 63 {
		p.Graph.Edges = append(p.Graph.Edges, graph.Edge{From: port, To: port + 1, Add: uint64(port % 3)})
	}
	return p
}

// kit is a Tower of a plan, and how many Cmds it was given.
type kit struct {
	t    *testing.T
	p    model.Plan
	w    *tower.Tower
	many int
}

func made(t *testing.T, p model.Plan, l progs) *kit {
	t.Helper()
	w, e := tower.New(p, l)
	if e != nil || w == nil {
		t.Fatalf("New of %v: %v", p, e)
	}
	k := &kit{t: t, p: p, w: w}
	for who := range p.Threads {
		k.many += w.Left(who)
	}
	return k
}

// time is how many accesses there were.
func (k *kit) time() int { return k.w.Track().Mem().Time() }

// picks holds what is answered of some picks: as often as they are picked, each with just one access of that who.
func (k *kit) picks(who, often int) {
	k.t.Helper()
	for i := range often {
		time := k.time()
		if !k.w.Pick(who) {
			k.t.Fatalf("pick %d of %d: nothing: %v", i, who, k.w.Track().Log())
		}
		if l := k.w.Track().Mem().Log()[time:]; len(l) != 1 || l[0].Who != who {
			k.t.Fatalf("pick %d of %d: %v", i, who, l)
		}
	}
}

// still holds that a pick does nothing.
func (k *kit) still(who int) {
	k.t.Helper()
	time, entries, left := k.time(), len(k.w.Track().Log()), k.w.Left(who)
	if k.w.Pick(who) || k.time() != time || len(k.w.Track().Log()) != entries || k.w.Left(who) != left {
		k.t.Fatalf("%d goes on: %v", who, k.w.Track().Log())
	}
}

// ends picks a thread till what it began is over.
func (k *kit) ends(who int) {
	k.t.Helper()
	for i := 0; ; i++ {
		k.picks(who, 1)
		if !slices.ContainsFunc(k.w.Track().Log(), func(x hist.Entry) bool { return x.Who == who && x.End == 0 }) {
			return
		}
		if i == track.Bound(k.p) {
			k.t.Fatalf("%d goes on and on", who)
		}
	}
}

// sweeps picks the drainer till it has nothing to do, and tells how often it went round.
func (k *kit) sweeps() int {
	k.t.Helper()
	had := k.shows()
	for i := 0; k.w.Pick(k.p.Threads); i++ {
		if i == track.Bound(k.p) {
			k.t.Fatal("the drainer goes on and on")
		}
	}
	k.still(k.p.Threads)
	return k.shows() - had
}

// shows is how often the drainer went round ever.
func (k *kit) shows() int {
	many := 0
	for _, x := range k.w.Track().Log() {
		if x.Op.Kind == model.Show && x.End != 0 {
			many++
		}
	}
	return many
}

// sleeps picks a thread till it sleeps.
func (k *kit) sleeps(who int) {
	k.t.Helper()
	for i := 0; !k.w.Waits(who); i++ {
		k.picks(who, 1)
		if i == track.Bound(k.p) {
			k.t.Fatalf("%d doesn't sleep", who)
		}
	}
}

// idles holds whether it is Idle, and where it is that nothing goes on, and no pick does.
func (k *kit) idles(want bool) {
	k.t.Helper()
	if got := k.w.Idle(); got != want {
		k.t.Fatalf("Idle: %v, want %v: %v", got, want, k.w.Track().Log())
	}
	if !want {
		return
	}
	if n := k.w.Rest(0); n != 0 {
		k.t.Fatalf("Rest of what is Idle: %d", n)
	}
	for who := range k.p.Threads + 1 {
		k.still(who)
	}
}

// rest goes on till it is Idle: within as many rounds as the document says.
func (k *kit) rest() int {
	k.t.Helper()
	n := k.w.Rest((k.many + 4) * track.Bound(k.p))
	if n < 0 {
		k.t.Fatalf("nobody comes to rest: %v", k.w.Track().Log())
	}
	k.idles(true)
	return n
}

// did is the Entries of who, but its Puts.
func (k *kit) did(who int) []hist.Entry {
	return slices.DeleteFunc(k.w.Track().Log(), func(x hist.Entry) bool { return x.Who != who || x.Op.Kind == model.Put })
}

// says holds what a thread was answered to all that it did.
func (k *kit) says(who int, want ...answer) {
	k.t.Helper()
	l := k.did(who)
	if len(l) != len(want) {
		k.t.Fatalf("%d did %v, want %v", who, l, want)
	}
	for i, x := range l {
		if !model.Same(x.Answer, want[i]) || x.End == 0 {
			k.t.Fatalf("%d, thing %d: %v, want %v", who, i, x, want[i])
		}
	}
}

// right holds the Log against layer 15, and the accesses against layer 9: P17.2.
func (k *kit) right() {
	k.t.Helper()
	l := k.w.Track().Log()
	if !hist.Right(k.p.Threads, l) {
		k.t.Fatalf("not Right: %v", l)
	}
	if i := hist.Check(k.p, l); i != -1 {
		k.t.Fatalf("%d: in another order: %v", i, l)
	}
	if i, j := clock.Race(k.w.Track().Mem().Log()); i != -1 || j != -1 {
		k.t.Fatalf("a Race of %d and %d", i, j)
	}
}

// all is what all threads hold.
func (k *kit) all() bag.Bag {
	var all bag.Bag
	for who := range k.p.Threads {
		all, _ = batch.Merge(all, claim.All(k.w.Track().Own(who)))
	}
	return all
}

func (k *kit) fronts() []uint64 { return front.Of(graph.Paths(k.p.Graph), k.all()) }

// safe goes through the Log in the order of the Marks, by a Model: no front of what is held goes back, what is shown is
// above none, and what a Done or a Wait said has gone by: P17.2, P3. It tells what the Model is like then.
func (k *kit) safe() *model.Model {
	k.t.Helper()
	m, _ := model.New(k.p)
	paths := graph.Paths(k.p.Graph)
	held := front.Of(paths, m.All())
	gone := map[int]uint64{}
	l := slices.DeleteFunc(k.w.Track().Log(), func(x hist.Entry) bool { return x.Mark == 0 })
	slices.SortFunc(l, func(a, b hist.Entry) int { return a.Mark - b.Mark })
	for _, x := range l {
		a := m.Do(x.Op)
		if a.N == 1 && (x.Op.Kind == model.Done || x.Op.Kind == model.Wait) {
			gone[x.Op.Port] = max(gone[x.Op.Port], x.Op.Time)
		}
		now, shown := front.Of(paths, m.All()), m.Shown()
		for port, time := range now {
			said, any := gone[port]
			if time < held[port] || shown[port] > time || any && time <= said {
				k.t.Fatalf("behind %v: at %d %d, it was %d, shown is %d, and gone by has %d", x, port, time, held[port], shown[port], said)
			}
		}
		held = now
	}
	return m
}

// atRest holds what is so when it is Idle: all that is held is folded, and its fronts are shown; each thread is through
// with all, but one that sleeps over a Wait for a time that may come to its port yet, and it isn't shut then: P17.3, P4.
// It tells how many sleep.
func (k *kit) atRest() int {
	k.t.Helper()
	k.idles(true)
	k.right()
	m, now, asleep := k.safe(), k.fronts(), 0
	if !batch.Same(m.All(), k.all()) || !batch.Same(m.Folded(), k.all()) || !slices.Equal(m.Shown(), now) {
		k.t.Fatalf("at rest %v is held, and %v folded: %v", k.all(), m.Folded(), m.Shown())
	}
	for who := range k.p.Threads {
		l := k.did(who)
		if len(l) > 0 && l[len(l)-1].End == 0 {
			asleep++
			o := l[len(l)-1].Op
			if !k.w.Waits(who) || o.Kind != model.Wait || now[o.Port] > o.Time || m.Closed() {
				k.t.Fatalf("%d is stuck with %v: %v", who, o, now)
			}
		} else if k.w.Waits(who) || k.w.Left(who) != 0 || m.Waiting(who) != 0 {
			k.t.Fatalf("%d isn't through: %v", who, l)
		}
	}
	for l := range 64 {
		if who := k.w.Track().Mem().Holder(l); who != -1 {
			k.t.Fatalf("latch %d is %d's", l, who)
		}
	}
	return asleep
}
