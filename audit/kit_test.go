package audit_test

import (
	"slices"
	"testing"

	"marchland/api"
	"marchland/audit"
	"marchland/bag"
	"marchland/batch"
	"marchland/front"
	"marchland/graph"
	"marchland/hist"
	"marchland/mem"
	"marchland/model"
)

type (
	op     = model.Op
	answer = model.Answer
	entry  = hist.Entry
	change = batch.Change
)

const never = api.Never

func ch(port int, time uint64, diff int64) change { return change{Port: port, Time: time, Diff: diff} }

func num(n int) answer { return answer{N: n} }

func times(l ...uint64) answer { return answer{Times: l} }

// dice is a row of numbers that is the same each time.
type dice uint64

func (d *dice) roll(n int) int {
	*d = *d*6364136223846793005 + 1442695040888963407
	return int(uint64(*d)>>33) % n
}

func pick[T any](d *dice, l []T) T { return l[d.roll(len(l))] }

// plan is one of two ports, 3 apart, with an input each: of each of the first two threads one.
func plan(threads int) model.Plan {
	g := graph.Graph{Ports: 2, Edges: []graph.Edge{{From: 0, To: 1, Add: 3}}, Inputs: []int{0, 1}}
	return model.Plan{Graph: g, Threads: threads, Ring: 4, Shards: 1, Tries: 1}
}

// one is the plan of one port and one thread.
func one() model.Plan {
	return model.Plan{Graph: graph.Graph{Ports: 1, Inputs: []int{0}}, Threads: 1, Ring: 4, Shards: 1, Tries: 1}
}

// Things to do, in short.
func open(who, hand int) op { return op{Kind: model.Open, Who: who, Hand: hand} }

func advance(who, hand int, time uint64) op {
	return op{Kind: model.Advance, Who: who, Hand: hand, Time: time}
}

func shutHand(who, hand int) op { return op{Kind: model.Close, Who: who, Hand: hand} }

func update(who int, l ...change) op { return op{Kind: model.Update, Who: who, L: l} }

func done(who, port int, time uint64) op {
	return op{Kind: model.Done, Who: who, Port: port, Time: time}
}

func wait(who, port int, time uint64) op {
	return op{Kind: model.Wait, Who: who, Port: port, Time: time}
}

func put(who, way int) op { return op{Kind: model.Put, Who: who, Way: way} }

func pop(who int) op { return op{Kind: model.Pop, Who: who} }

var (
	drain  = op{Kind: model.Drain}
	show   = op{Kind: model.Show}
	shut   = op{Kind: model.Shut}
	fronts = op{Kind: model.Fronts}
)

// did is the Entries of things that were done one behind the other, with a Model's answers: the first one has Mark 1.
func did(t *testing.T, p model.Plan, l ...op) []entry {
	t.Helper()
	m, e := model.New(p)
	if e != nil {
		t.Fatal(e)
	}
	var entries []entry
	for i, o := range l {
		who := o.Who
		if o.Kind >= model.Drain {
			who = p.Threads
		}
		entries = append(entries, entry{Who: who, Begin: i, Mark: i + 1, End: i + 1, Op: o, Answer: m.Do(o)})
	}
	return entries
}

// behind is Entries, and others behind them.
func behind(l []entry, more ...entry) []entry { return append(slices.Clone(l), more...) }

// deep is a list that shares nothing with another one.
func deep(l []entry) []entry {
	l = slices.Clone(l)
	for i := range l {
		l[i].Op.L, l[i].Answer.Times = slices.Clone(l[i].Op.L), slices.Clone(l[i].Answer.Times)
	}
	return l
}

func mixed(d *dice, l []entry) []entry {
	for i := range l {
		j := d.roll(i + 1)
		l[i], l[j] = l[j], l[i]
	}
	return l
}

// checks holds Check, and Safe, of a list.
func checks(t *testing.T, name string, p model.Plan, l []entry, accesses []mem.Event, want string, safe bool) {
	t.Helper()
	if got := audit.Check(p, l, accesses); got != want {
		t.Errorf("%s: %q, want %q: %v", name, got, want, l)
	}
	if audit.Safe(p, l) != safe {
		t.Errorf("%s: safe %v: %v", name, !safe, l)
	}
}

// opens holds Open of a list.
func opens(t *testing.T, name string, p model.Plan, l []entry, want ...change) {
	t.Helper()
	if got := audit.Open(p, l); !slices.Equal(got, want) || !batch.Right(got) {
		t.Errorf("%s: %v, want %v: %v", name, got, want, l)
	}
}

// plainly is Safe, and Open, told most plainly: of all fronts behind each thing none is behind what was said ahead of it.
func plainly(p model.Plan, l []entry) (bool, batch.Batch) {
	m, e := model.New(p)
	if e != nil || !hist.Right(p.Threads, l) {
		return false, nil
	}
	var said []op
	safe := true
	for last := 0; ; {
		next := -1
		for i, x := range l {
			if x.Mark > last && (next < 0 || x.Mark < l[next].Mark) {
				next = i
			}
		}
		if next < 0 {
			return safe, lacks(m.All(), m.Folded())
		}
		last = l[next].Mark
		o := l[next].Op
		if a := m.Do(o); a.N == 1 && (o.Kind == model.Done || o.Kind == model.Wait) {
			said = append(said, o)
		}
		may := front.Of(graph.Paths(p.Graph), m.All())
		for _, o := range said {
			safe = safe && may[o.Port] > o.Time
		}
	}
}

// lacks is by how much there are more in the one than in the other one.
func lacks(a, b bag.Bag) batch.Batch {
	type point struct {
		port int
		time uint64
	}
	sums := map[point]int64{}
	for _, x := range a {
		sums[point{x.Port, x.Time}] += x.Diff
	}
	for _, x := range b {
		sums[point{x.Port, x.Time}] -= x.Diff
	}
	var l batch.Batch
	for at, n := range sums {
		if n != 0 {
			l = append(l, ch(at.port, at.time, n))
		}
	}
	slices.SortFunc(l, func(x, y change) int {
		if x.Port != y.Port || x.Time == y.Time {
			return x.Port - y.Port
		}
		if x.Time < y.Time {
			return -1
		}
		return 1
	})
	return l
}
