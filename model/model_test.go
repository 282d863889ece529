package model_test

import (
	"math"
	"slices"
	"strconv"
	"testing"

	"marchland/api"
	"marchland/bag"
	"marchland/batch"
	"marchland/claim"
	"marchland/fault"
	"marchland/graph"
	"marchland/model"
)

type (
	op     = model.Op
	answer = model.Answer
	change = batch.Change
	edges  = []graph.Edge
)

const (
	hold  = int64(api.MaxHold)
	most  = int64(api.MaxCount)
	never = api.Never
)

// ch is a Change in short, hd a Hand.
func ch(port int, time uint64, diff int64) change { return change{Port: port, Time: time, Diff: diff} }

func hd(id, port int, time uint64) claim.Hand { return claim.Hand{Id: id, Port: port, Time: time} }

func times(l ...uint64) answer { return answer{Times: l} }

func no(e api.Errno) answer { return answer{Err: e} }

// wrong is what is answered where there is no such thing to do.
var wrong = answer{N: -1, Err: api.ErrArg}

// Things to do, in short.
func open(who, hand int) op { return op{Kind: model.Open, Who: who, Hand: hand} }

func advance(who, hand int, time uint64) op {
	return op{Kind: model.Advance, Who: who, Hand: hand, Time: time}
}

func shutHand(who, hand int) op { return op{Kind: model.Close, Who: who, Hand: hand} }

func update(who int, l ...change) op { return op{Kind: model.Update, Who: who, L: l} }

func done(who, port int, time uint64) op {
	return op{Kind: model.Done, Who: who, Port: port, Time: time}
}

func wait(who, port int, time uint64) op {
	return op{Kind: model.Wait, Who: who, Port: port, Time: time}
}

func put(who, way int) op { return op{Kind: model.Put, Who: who, Way: way} }

func pop(who int) op { return op{Kind: model.Pop, Who: who} }

var (
	drain = op{Kind: model.Drain}
	show  = op{Kind: model.Show}
	shut  = op{Kind: model.Shut}
)

// dice is a row of numbers that is the same each time.
type dice uint64

func (d *dice) roll(n int) int {
	*d = *d*6364136223846793005 + 1442695040888963407
	return int(uint64(*d)>>33) % n
}

func pick[T any](d *dice, l []T) T { return l[d.roll(len(l))] }

// roomy is a copy of l with things in its spare room; whole tells whether all of it is as it was.
func roomy[T comparable](l []T, more T) (copied []T, whole func() bool) {
	full := append(slices.Clone(l), more, more)
	kept := slices.Clone(full)
	return full[:len(l)], func() bool { return slices.Equal(full, kept) }
}

// spoil overwrites a list, its spare room too.
func spoil[T any](l []T, by T) {
	l = l[:cap(l)]
	for i := range l {
		l[i] = by
	}
}

// plan is one of a Graph of some ports, edges and inputs.
func plan(threads, ports int, e edges, inputs ...int) model.Plan {
	return model.Plan{Graph: graph.Graph{Ports: ports, Edges: e, Inputs: inputs}, Threads: threads, Ring: 1, Shards: 1, Tries: 1}
}

// one is the plan of one port, and of one thread; two that of two ports, each with an input, and of two threads.
func one() model.Plan { return plan(1, 1, nil, 0) }

func two() model.Plan { return plan(2, 2, edges{{From: 0, To: 1, Add: 3}}, 0, 1) }

func made(t *testing.T, p model.Plan) *model.Model {
	t.Helper()
	m, e := model.New(p)
	if e != nil || m == nil {
		t.Fatalf("New of %v: %v", p, e)
	}
	return m
}

// do holds an answer against what it should be.
func do(t *testing.T, m *model.Model, o op, want answer) {
	t.Helper()
	if a := m.Do(o); !same(a, want) {
		t.Fatalf("%v: %v, want %v", o, a, want)
	}
}

func same(a, b answer) bool { return a.N == b.N && a.Err == b.Err && slices.Equal(a.Times, b.Times) }

// state is all that is to be seen of a Model.
type state struct {
	owns        []claim.Own
	all, folded bag.Bag
	shown       []uint64
	waiting     []int
	closed      bool
}

func seen(m *model.Model, threads int) state {
	s := state{all: m.All(), folded: m.Folded(), shown: m.Shown(), closed: m.Closed()}
	for who := range threads {
		s.owns, s.waiting = append(s.owns, m.Own(who)), append(s.waiting, m.Waiting(who))
	}
	return s
}

func sameOwn(a, b claim.Own) bool {
	return slices.Equal(a.Hands, b.Hands) && slices.Equal(a.Held, b.Held)
}

func sameState(a, b state) bool {
	return slices.EqualFunc(a.owns, b.owns, sameOwn) && slices.Equal(a.all, b.all) && slices.Equal(a.folded, b.folded) &&
		slices.Equal(a.shown, b.shown) && slices.Equal(a.waiting, b.waiting) && a.closed == b.closed
}

// refuse holds an answer likewise, and that nothing is changed by it (P5).
func refuse(t *testing.T, m *model.Model, threads int, o op, want answer) {
	t.Helper()
	before := seen(m, threads)
	do(t, m, o, want)
	if after := seen(m, threads); !sameState(before, after) {
		t.Fatalf("%v: of %v is made %v", o, before, after)
	}
}

func owns(t *testing.T, m *model.Model, who int, hands []claim.Hand, held ...change) {
	t.Helper()
	if o := m.Own(who); !sameOwn(o, claim.Own{Hands: hands, Held: held}) {
		t.Fatalf("%d owns %v, want %v, %v", who, o, hands, held)
	}
}

func bags(t *testing.T, name string, got bag.Bag, want ...change) {
	t.Helper()
	if !slices.Equal(got, want) || !bag.Right(got) {
		t.Fatalf("%s: %v, want %v", name, got, want)
	}
}

func shown(t *testing.T, m *model.Model, want ...uint64) {
	t.Helper()
	if got := m.Shown(); !slices.Equal(got, want) {
		t.Fatalf("shown are %v, want %v", got, want)
	}
}

func waiting(t *testing.T, m *model.Model, want ...int) {
	t.Helper()
	for who, n := range want {
		if got := m.Waiting(who); got != n {
			t.Fatalf("of %d there wait %d, want %d", who, got, n)
		}
	}
}

// P14.1: the document's example, of the chapter and of the whole.
func TestExample(t *testing.T) {
	m := made(t, one())
	do(t, m, advance(0, 0, 5), answer{})
	do(t, m, put(0, 0), answer{N: 1})
	do(t, m, drain, answer{})
	do(t, m, pop(0), answer{N: 1})
	do(t, m, show, times(5))
	do(t, m, done(0, 0, 4), answer{N: 1})
	do(t, m, done(0, 0, 5), answer{})
}

// of is a plan with other numbers.
func of(threads, ring, shards, tries int) model.Plan {
	p := one()
	p.Threads, p.Ring, p.Shards, p.Tries = threads, ring, shards, tries
	return p
}

// checked holds Check and New of a plan against a text (an empty one: nothing is wrong).
func checked(t *testing.T, p model.Plan, want string) {
	t.Helper()
	e := model.Check(p)
	m, made := model.New(p)
	if want == "" {
		if e != nil || made != nil || m == nil {
			t.Errorf("%v: %v, %v", p, e, made)
		}
		return
	}
	if e == nil || fault.Text(e) != want || made == nil || fault.Text(made) != want || m != nil {
		t.Errorf("%v: %v, New: %v, %v, want %s", p, e, m, made, want)
	}
}

// P14.1
func TestCheck(t *testing.T) {
	far := []int{math.MinInt, -64, -8, -2, -1, 128, 1 << 32, 1 << 62, math.MaxInt}
	for _, n := range append(far, 0, 1, 2, 3, 4, 5, 6, 7, 8, 9, 12, 15, 16, 17, 31, 32, 33, 63, 64, 65, 96) {
		text := strconv.Itoa(n) + ": argument"
		for _, c := range []struct {
			p     model.Plan
			right bool
			want  string
		}{
			{of(n, 1, 1, 1), n >= 1 && n <= 8, "threads " + text},
			{of(1, n, 1, 1), slices.Contains([]int{1, 2, 4, 8, 16, 32, 64}, n), "ring " + text},
			{of(1, 1, n, 1), n >= 1 && n <= 8, "shards " + text},
			{of(1, 1, 1, n), n >= 1 && n <= 8, "tries " + text},
		} {
			if c.right {
				c.want = ""
			}
			checked(t, c.p, c.want)
		}
	}
	checked(t, of(8, 64, 8, 8), "")
}

// P14.1: of several the one named first; the Graph's goes ahead of all, at its own places.
func TestCheckInOrder(t *testing.T) {
	checked(t, of(0, 0, 0, 0), "threads 0: argument")
	checked(t, of(9, 3, 9, 9), "threads 9: argument")
	checked(t, of(1, 3, 9, 9), "ring 3: argument")
	checked(t, of(1, 1, 9, 0), "shards 9: argument")
	checked(t, of(8, 64, 8, -1), "tries -1: argument")
	for _, c := range []struct {
		g    graph.Graph
		want string
	}{
		{graph.Graph{}, "port"},
		{graph.Graph{Ports: 65, Inputs: []int{0}}, "port"},
		{graph.Graph{Ports: 1}, "many"},
		{graph.Graph{Ports: 2, Inputs: []int{0, 2}}, "input 1: port"},
		{graph.Graph{Ports: 2, Inputs: []int{1, 1}}, "input 1: argument"},
		{graph.Graph{Ports: 2, Edges: edges{{To: 1}, {To: 9}}, Inputs: []int{0}}, "edge 1: to 9: port"},
		{graph.Graph{Ports: 2, Edges: edges{{To: 1}, {From: 1}}, Inputs: []int{0}}, "port 0: cycle"},
	} {
		checked(t, model.Plan{Graph: c.g, Threads: 1, Ring: 1, Shards: 1, Tries: 1}, c.want)
		checked(t, model.Plan{Graph: c.g, Threads: 9, Ring: 3, Shards: 9, Tries: 9}, c.want)
	}
	checked(t, model.Plan{}, "port")
}

// P14.1: each input's Hand is of the thread of its place, mod Threads.
func TestNew(t *testing.T) {
	m := made(t, plan(2, 5, edges{{From: 3, To: 4, Add: 7}}, 3, 0, 2))
	owns(t, m, 0, []claim.Hand{hd(0, 3, 0), hd(2, 2, 0)})
	owns(t, m, 1, []claim.Hand{hd(1, 0, 0)})
	bags(t, "all", m.All(), ch(0, 0, 1), ch(2, 0, 1), ch(3, 0, 1))
	bags(t, "folded", m.Folded(), ch(0, 0, 1), ch(2, 0, 1), ch(3, 0, 1))
	// Not the fronts: to port 1 nothing may come, to port 4 nothing ahead of 7.
	shown(t, m, 0, 0, 0, 0, 0)
	waiting(t, m, 0, 0, 0)
	if m.Closed() {
		t.Error("it is shut")
	}
	do(t, m, show, times(0, never, 0, 0, 7))
}

// P14.1: as many threads and inputs as there may be; fewer inputs than threads.
func TestNewOfMany(t *testing.T) {
	m := made(t, plan(8, 64, nil, 7, 6, 5, 4, 3, 2, 1, 63))
	for who, port := range []int{7, 6, 5, 4, 3, 2, 1, 63} {
		owns(t, m, who, []claim.Hand{hd(who, port, 0)})
	}
	m = made(t, plan(8, 2, nil, 1))
	owns(t, m, 0, []claim.Hand{hd(0, 1, 0)})
	for who := 1; who < 8; who++ {
		owns(t, m, who, nil)
	}
	m = made(t, plan(1, 8, nil, 7, 6, 5, 4, 3, 2, 1, 0))
	owns(t, m, 0, []claim.Hand{hd(0, 7, 0), hd(1, 6, 0), hd(2, 5, 0), hd(3, 4, 0), hd(4, 3, 0), hd(5, 2, 0), hd(6, 1, 0), hd(7, 0, 0)})
}

// P14.1
func TestOpen(t *testing.T) {
	m := made(t, two())
	do(t, m, advance(1, 1, 9), answer{})
	do(t, m, open(1, 1), answer{N: 2})
	do(t, m, open(0, 0), answer{N: 3})
	do(t, m, open(1, 2), answer{N: 4})
	owns(t, m, 0, []claim.Hand{hd(0, 0, 0), hd(3, 0, 0)})
	owns(t, m, 1, []claim.Hand{hd(1, 1, 9), hd(2, 1, 9), hd(4, 1, 9)})
	waiting(t, m, 1, 3)
	bags(t, "all", m.All(), ch(0, 0, 2), ch(1, 9, 3))
	bags(t, "folded", m.Folded(), ch(0, 0, 1), ch(1, 0, 1))
	// None is there; another thread's; one that isn't any more; the Ids that there are, beside other Gens.
	for _, h := range []int{-1, 1, 2, 5, 63, 64, 67, math.MinInt, math.MaxInt} {
		refuse(t, m, 2, open(0, h), no(api.ErrStale))
	}
}

// P14.1: the Table is one for all threads; a Slot that was given back has another Id.
func TestOpenTillFull(t *testing.T) {
	m := made(t, two())
	for id := 2; id < 64; id++ {
		do(t, m, open(id%2, id%2), answer{N: id})
	}
	refuse(t, m, 2, open(0, 0), no(api.ErrFull))
	refuse(t, m, 2, open(1, 63), no(api.ErrFull))
	// That there is no such handle goes ahead.
	refuse(t, m, 2, open(1, 0), no(api.ErrStale))
	do(t, m, shutHand(1, 7), answer{})
	do(t, m, shutHand(0, 4), answer{})
	do(t, m, open(1, 1), answer{N: 64 + 4})
	do(t, m, open(1, 1), answer{N: 64 + 7})
	refuse(t, m, 2, open(1, 1), no(api.ErrFull))
	do(t, m, shutHand(1, 64+4), answer{})
	do(t, m, open(0, 0), answer{N: 128 + 4})
	refuse(t, m, 2, open(0, 4), no(api.ErrStale))
	refuse(t, m, 2, open(1, 64+4), no(api.ErrStale))
	// That it is shut goes ahead of all.
	do(t, m, shut, answer{})
	refuse(t, m, 2, open(0, 0), no(api.ErrClosed))
	refuse(t, m, 2, open(0, 1), no(api.ErrClosed))
}

// P14.1
func TestAdvance(t *testing.T) {
	m := made(t, two())
	do(t, m, advance(1, 1, 7), answer{})
	owns(t, m, 1, []claim.Hand{hd(1, 1, 7)})
	waiting(t, m, 0, 1)
	// To the time at which it is: by nothing it is another one, and so nothing is put off.
	do(t, m, advance(1, 1, 7), answer{})
	waiting(t, m, 0, 1)
	refuse(t, m, 2, advance(1, 1, 6), no(api.ErrBack))
	refuse(t, m, 2, advance(1, 1, never), no(api.ErrArg))
	refuse(t, m, 2, advance(1, 0, 9), no(api.ErrStale))
	refuse(t, m, 2, advance(1, 0, never), no(api.ErrStale))
	refuse(t, m, 2, advance(0, -1, 9), no(api.ErrStale))
	do(t, m, advance(1, 1, never-1), answer{})
	owns(t, m, 1, []claim.Hand{hd(1, 1, never-1)})
	owns(t, m, 0, []claim.Hand{hd(0, 0, 0)})
	waiting(t, m, 0, 2)
	do(t, m, shut, answer{})
	refuse(t, m, 2, advance(1, 1, never), no(api.ErrClosed))
	refuse(t, m, 2, advance(0, 0, 1), no(api.ErrClosed))
}

// P14.1
func TestClose(t *testing.T) {
	m := made(t, two())
	refuse(t, m, 2, shutHand(0, 1), no(api.ErrStale))
	refuse(t, m, 2, shutHand(0, 64), no(api.ErrStale))
	refuse(t, m, 2, shutHand(0, math.MinInt), no(api.ErrStale))
	// Another thread's was not given back by that: so the Id that comes is neither's.
	do(t, m, open(1, 1), answer{N: 2})
	do(t, m, shutHand(0, 0), answer{})
	owns(t, m, 0, nil)
	waiting(t, m, 1, 1)
	bags(t, "all", m.All(), ch(1, 0, 2))
	refuse(t, m, 2, shutHand(0, 0), no(api.ErrStale))
	refuse(t, m, 2, open(0, 0), no(api.ErrStale))
	refuse(t, m, 2, advance(0, 0, 9), no(api.ErrStale))
	do(t, m, open(1, 1), answer{N: 64})
	do(t, m, shut, answer{})
	refuse(t, m, 2, shutHand(1, 1), no(api.ErrClosed))
	refuse(t, m, 2, shutHand(1, 0), no(api.ErrClosed))
}

// P14.1: each thread by what it holds alone.
func TestUpdate(t *testing.T) {
	m := made(t, two())
	do(t, m, update(0, ch(1, 9, 2), ch(0, 7, 1), ch(1, 9, -1)), answer{})
	owns(t, m, 0, []claim.Hand{hd(0, 0, 0)}, ch(0, 7, 1), ch(1, 9, 1))
	bags(t, "all", m.All(), ch(0, 0, 1), ch(0, 7, 1), ch(1, 0, 1), ch(1, 9, 1))
	waiting(t, m, 1, 0)
	// It comes to nothing: nothing is put off.
	do(t, m, update(0), answer{})
	do(t, m, update(0, ch(1, 9, 2), ch(1, 9, -2)), answer{})
	waiting(t, m, 1, 0)
	do(t, m, update(0, ch(1, 9, -1)), answer{})
	owns(t, m, 0, []claim.Hand{hd(0, 0, 0)}, ch(0, 7, 1))
	waiting(t, m, 2, 0)
}

// P14.1, P5
func TestUpdateRefuses(t *testing.T) {
	m := made(t, two())
	do(t, m, update(0, ch(1, 9, 2)), answer{})
	do(t, m, advance(0, 0, 5), answer{})
	for _, c := range []struct {
		who  int
		l    []change
		want api.Errno
	}{
		{0, slices.Repeat([]change{ch(0, 9, 1)}, 17), api.ErrMany},
		{0, []change{ch(64, 9, 1), ch(0, never, 1)}, api.ErrPort},
		{0, []change{ch(-1, 9, 1)}, api.ErrPort},
		{0, []change{ch(0, never, 1)}, api.ErrArg},
		{0, []change{ch(0, 9, most+1)}, api.ErrOver},
		{0, []change{ch(0, 9, most), ch(0, 9, 1)}, api.ErrOver},
		{0, []change{ch(2, 9, 1)}, api.ErrPort},
		{0, []change{ch(0, 4, 1)}, api.ErrUnjustified},
		{0, []change{ch(1, 7, 1)}, api.ErrUnjustified},
		// 1 9 lets no 0 be, and only its own thread holds it.
		{0, []change{ch(1, 9, -3)}, api.ErrUnjustified},
		{1, []change{ch(1, 9, -1)}, api.ErrUnjustified},
		{1, []change{ch(0, 9, 1)}, api.ErrUnjustified},
		{0, []change{ch(1, 9, hold-1)}, api.ErrOver},
		// All of it, or nothing.
		{0, []change{ch(0, 9, 1), ch(1, 7, 1)}, api.ErrUnjustified},
	} {
		refuse(t, m, 2, update(c.who, c.l...), no(c.want))
	}
	do(t, m, update(0, ch(1, 9, hold-2)), answer{})
	do(t, m, update(0, slices.Repeat([]change{ch(0, 9, 1)}, 16)...), answer{})
	do(t, m, shut, answer{})
	refuse(t, m, 2, update(0, slices.Repeat([]change{ch(0, 9, 1)}, 17)...), no(api.ErrClosed))
	refuse(t, m, 2, update(0), no(api.ErrClosed))
}

// P14.1: whatever is shown, not what is held, nor what is folded.
func TestFronts(t *testing.T) {
	m := made(t, two())
	fronts := func(who int) op { return op{Kind: model.Fronts, Who: who, Hand: -3, Port: -9, Time: never, Way: 4} }
	refuse(t, m, 2, fronts(0), times(0, 0))
	do(t, m, advance(0, 0, 5), answer{})
	do(t, m, advance(1, 1, 11), answer{})
	do(t, m, put(0, 1), answer{N: 1})
	do(t, m, put(1, 1), answer{N: 1})
	refuse(t, m, 2, fronts(1), times(0, 0))
	do(t, m, drain, answer{N: 4})
	refuse(t, m, 2, fronts(1), times(0, 0))
	do(t, m, show, times(5, 8))
	refuse(t, m, 2, fronts(0), times(5, 8))
	do(t, m, shut, answer{})
	refuse(t, m, 2, fronts(1), times(5, 8))
}

// shows brings all that one thread alone put off to what is shown.
func shows(t *testing.T, m *model.Model, who int, want ...uint64) {
	t.Helper()
	for m.Waiting(who) > 0 {
		do(t, m, put(who, 1), answer{N: 1})
	}
	m.Do(drain)
	do(t, m, show, times(want...))
}

// P14.1: of each port, from each thread, with all of the time's edges.
func TestDoneAndWait(t *testing.T) {
	m := made(t, plan(2, 3, edges{{From: 0, To: 1, Add: 1 << 63}}, 0))
	do(t, m, advance(0, 0, 1<<63-1), answer{})
	shows(t, m, 0, 1<<63-1, never, never)
	for _, c := range []struct {
		port int
		time uint64
		want answer
	}{
		{0, 0, answer{N: 1}},
		{0, 1<<63 - 2, answer{N: 1}},
		{0, 1<<63 - 1, answer{}},
		{0, 1 << 63, answer{}},
		{0, never, answer{}},
		{2, 0, answer{N: 1}},
		{2, never - 1, answer{N: 1}},
		{2, never, answer{}},
		{3, 0, no(api.ErrPort)},
		{-1, 0, no(api.ErrPort)},
		{64, never, no(api.ErrPort)},
		{math.MinInt, 0, no(api.ErrPort)},
		{math.MaxInt, 0, no(api.ErrPort)},
	} {
		for who := range 2 {
			refuse(t, m, 2, done(who, c.port, c.time), c.want)
			refuse(t, m, 2, wait(who, c.port, c.time), c.want)
		}
	}
}

// P14.1: of Waits it counts that it is shut, but behind that there is no such port; of Dones it doesn't.
func TestDoneAndWaitWhenShut(t *testing.T) {
	m := made(t, two())
	do(t, m, advance(0, 0, 5), answer{})
	shows(t, m, 0, 5, 0)
	do(t, m, shut, answer{})
	refuse(t, m, 2, done(1, 0, 4), answer{N: 1})
	refuse(t, m, 2, done(1, 0, 5), answer{})
	refuse(t, m, 2, wait(1, 0, 4), no(api.ErrClosed))
	refuse(t, m, 2, wait(1, 0, 5), no(api.ErrClosed))
	refuse(t, m, 2, done(1, 2, 4), no(api.ErrPort))
	refuse(t, m, 2, wait(1, 2, 4), no(api.ErrPort))
	refuse(t, m, 2, wait(1, -1, 4), no(api.ErrPort))
}

// P14.1: by whichever thread; it stays so; what was put off still comes.
func TestShut(t *testing.T) {
	m := made(t, two())
	do(t, m, advance(0, 0, 5), answer{})
	do(t, m, advance(0, 0, 6), answer{})
	do(t, m, put(0, 0), answer{N: 1})
	before := seen(m, 2)
	do(t, m, op{Kind: model.Shut, Who: 1, Hand: 5, Time: 5}, answer{})
	before.closed = true
	if after := seen(m, 2); !m.Closed() || !sameState(before, after) {
		t.Fatalf("%v is made %v", before, after)
	}
	refuse(t, m, 2, shut, answer{})
	do(t, m, put(0, 1), answer{N: 1})
	do(t, m, pop(0), answer{N: 1})
	do(t, m, drain, answer{N: 2})
	do(t, m, show, times(6, 0))
	if !m.Closed() {
		t.Error("it isn't shut any more")
	}
}

// P14.1: of each size as many, and not one more; each thread's is its own.
func TestPutIntoRings(t *testing.T) {
	for size := 1; size <= 64; size *= 2 {
		p := two()
		p.Ring = size
		m := made(t, p)
		for i := range size + 2 {
			do(t, m, advance(0, 0, uint64(i+1)), answer{})
		}
		do(t, m, advance(1, 1, 3), answer{})
		for range size {
			do(t, m, put(0, 0), answer{N: 1})
		}
		waiting(t, m, size+2, 1)
		refuse(t, m, 2, put(0, 0), answer{})
		do(t, m, put(1, 0), answer{N: 1})
		refuse(t, m, 2, put(1, 0), no(api.ErrNone))
		do(t, m, pop(0), answer{N: 1})
		do(t, m, put(0, 0), answer{N: 1})
		refuse(t, m, 2, put(0, 0), answer{})
		waiting(t, m, size+1, 1)
	}
}

// P14.1: a ring that is full is no hindrance to the pool; nothing put off goes ahead of a full ring.
func TestPutIntoPool(t *testing.T) {
	m := made(t, two())
	for i, way := range []int{1, -1, 2, math.MinInt, math.MaxInt} {
		do(t, m, advance(0, 0, uint64(i+1)), answer{})
		do(t, m, put(0, way), answer{N: 1})
		waiting(t, m, 0, 0)
	}
	do(t, m, advance(0, 0, 6), answer{})
	do(t, m, advance(0, 0, 7), answer{})
	do(t, m, put(0, 0), answer{N: 1})
	refuse(t, m, 2, put(0, 0), answer{})
	do(t, m, put(0, 1), answer{N: 1})
	refuse(t, m, 2, put(0, 0), no(api.ErrNone))
	refuse(t, m, 2, put(0, 1), no(api.ErrNone))
	// 0 0 -1, 0 5 1 of the first five; 0 6 -1, 0 7 1: what stands in the ring still isn't in it.
	do(t, m, drain, answer{N: 4})
	refuse(t, m, 2, show, no(api.ErrState))
	do(t, m, pop(0), answer{N: 1})
	do(t, m, show, times(7, 0))
}

// P14.1: each is a queue, and Pops and Puts go to the first one.
func TestQueues(t *testing.T) {
	p := one()
	p.Ring = 4
	m := made(t, p)
	// One for each time, so that each is told by what comes to be folded.
	for i := range 6 {
		do(t, m, update(0, ch(0, uint64(i+1), 1)), answer{})
	}
	do(t, m, put(0, 0), answer{N: 1})
	do(t, m, put(0, 1), answer{N: 1})
	do(t, m, put(0, 0), answer{N: 1})
	do(t, m, put(0, 0), answer{N: 1})
	folded := []change{ch(0, 0, 1)}
	for i, time := range []uint64{1, 3, 4} {
		waiting(t, m, 5-i)
		do(t, m, pop(0), answer{N: 1})
		do(t, m, show, times(0))
		folded = append(folded, ch(0, time, 1))
		bags(t, "folded", m.Folded(), folded...)
	}
	refuse(t, m, 1, pop(0), answer{})
	do(t, m, put(0, 0), answer{N: 1})
	do(t, m, put(0, 1), answer{N: 1})
	do(t, m, pop(0), answer{N: 1})
	do(t, m, show, times(0))
	bags(t, "folded", m.Folded(), append(folded, ch(0, 5, 1))...)
	do(t, m, drain, answer{N: 2})
	do(t, m, show, times(0))
	bags(t, "folded", m.Folded(), ch(0, 0, 1), ch(0, 1, 1), ch(0, 2, 1), ch(0, 3, 1), ch(0, 4, 1), ch(0, 5, 1), ch(0, 6, 1))
}

// P14.1: N is how many Changes there were, whatever they come to where they are merged.
func TestDrain(t *testing.T) {
	m := made(t, two())
	refuse(t, m, 2, drain, answer{})
	do(t, m, advance(0, 0, 5), answer{})
	do(t, m, put(0, 1), answer{N: 1})
	do(t, m, drain, answer{N: 2})
	refuse(t, m, 2, drain, answer{})
	do(t, m, advance(0, 0, 6), answer{})
	do(t, m, advance(0, 0, 7), answer{})
	do(t, m, put(0, 1), answer{N: 1})
	do(t, m, put(0, 1), answer{N: 1})
	do(t, m, drain, answer{N: 2})
	do(t, m, show, times(7, 0))
	// What goes again in the pool is none.
	do(t, m, update(0, ch(0, 9, 1)), answer{})
	do(t, m, update(0, ch(0, 9, -1)), answer{})
	do(t, m, put(0, 1), answer{N: 1})
	do(t, m, put(0, 1), answer{N: 1})
	do(t, m, drain, answer{})
	// Of whoever it is, with whatever else.
	do(t, m, update(1, ch(1, 9, 1)), answer{})
	do(t, m, put(1, 1), answer{N: 1})
	do(t, m, op{Kind: model.Drain, Who: -7, Hand: -1, Port: 99, Time: never, Way: 3}, answer{N: 1})
}

// P14.1
func TestPop(t *testing.T) {
	m := made(t, two())
	refuse(t, m, 2, pop(0), answer{})
	do(t, m, advance(0, 0, 5), answer{})
	do(t, m, advance(1, 1, 6), answer{})
	// What is put off isn't in the ring yet, what is in the pool never.
	refuse(t, m, 2, pop(0), answer{})
	do(t, m, put(0, 0), answer{N: 1})
	do(t, m, put(1, 1), answer{N: 1})
	refuse(t, m, 2, pop(1), answer{})
	do(t, m, pop(0), answer{N: 1})
	waiting(t, m, 0, 0)
	refuse(t, m, 2, pop(0), answer{})
	do(t, m, show, times(5, 0))
	bags(t, "folded", m.Folded(), ch(0, 5, 1), ch(1, 0, 1))
}

// P14.1, P5: with a count below 0 nothing is done; what is staged stays so, till it may be.
func TestShow(t *testing.T) {
	p := one()
	p.Ring = 2
	m := made(t, p)
	do(t, m, advance(0, 0, 5), answer{})
	do(t, m, update(0, ch(0, 8, 1)), answer{})
	do(t, m, advance(0, 0, 7), answer{})
	do(t, m, put(0, 0), answer{N: 1})
	do(t, m, put(0, 0), answer{N: 1})
	do(t, m, put(0, 1), answer{N: 1})
	do(t, m, drain, answer{N: 2})
	refuse(t, m, 1, show, no(api.ErrState))
	refuse(t, m, 1, show, no(api.ErrState))
	do(t, m, pop(0), answer{N: 1})
	do(t, m, show, times(7))
	bags(t, "folded", m.Folded(), ch(0, 7, 1))
	// Nothing is staged then: it is the same again.
	refuse(t, m, 1, show, times(7))
	do(t, m, pop(0), answer{N: 1})
	do(t, m, op{Kind: model.Show, Who: 99}, times(7))
	refuse(t, m, 1, show, times(7))
	bags(t, "folded", m.Folded(), ch(0, 7, 1), ch(0, 8, 1))
	do(t, m, shutHand(0, 0), answer{})
	do(t, m, update(0, ch(0, 8, -1)), answer{})
	shows(t, m, 0, never)
	bags(t, "folded", m.Folded())
}

// P14.1, P1: of a Kind, or a thread, that there isn't.
func TestWrong(t *testing.T) {
	m := made(t, two())
	do(t, m, advance(0, 0, 5), answer{})
	do(t, m, put(0, 1), answer{N: 1})
	far := []int{math.MinInt, -1, 2, 8, math.MaxInt}
	for kind := model.Open; kind <= model.Show; kind++ {
		for _, who := range far {
			if kind != model.Drain && kind != model.Show {
				refuse(t, m, 2, op{Kind: kind, Who: who}, wrong)
			}
		}
	}
	for _, kind := range []int{math.MinInt, -1, 12, 13, 64, math.MaxInt} {
		for _, who := range append(far, 0, 1) {
			refuse(t, m, 2, op{Kind: kind, Who: who}, wrong)
		}
	}
	// Ahead of that it is shut.
	do(t, m, shut, answer{})
	refuse(t, m, 2, open(2, 0), wrong)
	refuse(t, m, 2, wait(2, 9, 0), wrong)
	for _, who := range far {
		if !sameOwn(m.Own(who), claim.Own{}) || m.Waiting(who) != 0 {
			t.Errorf("%d owns %v, waits %d", who, m.Own(who), m.Waiting(who))
		}
	}
}

// P14.1: of a Drain and a Show it doesn't matter whose they are.
func TestDrainersOfNobody(t *testing.T) {
	for _, who := range []int{math.MinInt, -1, 0, 1, 2, 8, math.MaxInt} {
		m := made(t, two())
		do(t, m, advance(0, 0, 5), answer{})
		do(t, m, put(0, 1), answer{N: 1})
		do(t, m, op{Kind: model.Drain, Who: who}, answer{N: 2})
		do(t, m, op{Kind: model.Show, Who: who}, times(5, 0))
	}
}

// P14.1, P1: of none, and of one that New didn't make.
func TestNil(t *testing.T) {
	var none *model.Model
	for kind := -2; kind <= 14; kind++ {
		for who := -1; who <= 8; who++ {
			do(t, none, op{Kind: kind, Who: who}, wrong)
			new(model.Model).Do(op{Kind: kind, Who: who})
		}
	}
	for _, m := range []*model.Model{none, {}} {
		if s := seen(m, 8); !sameState(s, state{owns: make([]claim.Own, 8), waiting: make([]int, 8)}) {
			t.Error(s)
		}
		if m.All() != nil || m.Folded() != nil || len(m.Shown()) != 0 || m.Closed() {
			t.Error("there is something")
		}
	}
}

// P14.1
func TestSame(t *testing.T) {
	l := []answer{{}, {N: 1}, {N: -1}, {Err: api.ErrArg}, {N: 1, Err: api.ErrArg}, times(0), times(1), times(1, 0), times(0, 1), times(never), {N: 1, Times: []uint64{1}}, {Err: api.ErrArg, Times: []uint64{1}}}
	for i, a := range l {
		for j, b := range l {
			b.Times = slices.Clone(b.Times)
			if model.Same(a, b) != (i == j) {
				t.Errorf("%v, %v: %v", a, b, i != j)
			}
		}
	}
	if !model.Same(answer{Times: nil}, answer{Times: []uint64{}}) || !model.Same(answer{Times: []uint64{}}, answer{}) {
		t.Error("nothing isn't nothing")
	}
}

// crowd is a plan of as many threads as there may be, each with a handle of its own, by which it may come to port 0.
func crowd() model.Plan {
	p := plan(8, 8, nil, 0, 1, 2, 3, 4, 5, 6, 7)
	for from := 1; from < 8; from++ {
		p.Graph.Edges = append(p.Graph.Edges, graph.Edge{From: from})
	}
	p.Ring = 64
	return p
}

// lots is as many stamps as a thread may hold: they come, or they go.
func lots(t *testing.T, m *model.Model, who int, diff int64, way int) {
	t.Helper()
	do(t, m, update(who, ch(0, 5, diff)), answer{})
	do(t, m, put(who, way), answer{N: 1})
}

// P14.1, P5: where a merge into the pool, or by a Pop, would be too great, it isn't, and the batch stays where it is.
func TestTooGreatOfOne(t *testing.T) {
	for _, c := range []struct {
		come, go_ int
		refused   op
	}{
		{1, 0, put(0, 1)},
		{0, 1, pop(0)},
	} {
		m := made(t, crowd())
		for range 512 {
			lots(t, m, 0, hold, c.come)
			lots(t, m, 0, -hold, c.go_)
			do(t, m, pop(0), answer{N: 1})
		}
		do(t, m, update(0, ch(0, 5, hold)), answer{})
		if c.come == 0 {
			do(t, m, put(0, 0), answer{N: 1})
		}
		waiting(t, m, 1)
		refuse(t, m, 8, c.refused, no(api.ErrOver))
		refuse(t, m, 8, c.refused, no(api.ErrOver))
		do(t, m, drain, answer{N: 1})
		do(t, m, show, times(0, 0, 0, 0, 0, 0, 0, 0))
		do(t, m, c.refused, answer{N: 1})
		waiting(t, m, 0)
		m.Do(drain)
		do(t, m, show, times(0, 0, 0, 0, 0, 0, 0, 0))
		bags(t, "folded", m.Folded(), m.All()...)
	}
}

// P14.1, P5: likewise where a Drain, or a Show, would be.
func TestTooGreatOfAll(t *testing.T) {
	for _, early := range []bool{false, true} {
		m := made(t, crowd())
		for who := range 8 {
			for range 64 {
				lots(t, m, who, hold, 1)
				lots(t, m, who, -hold, 0)
			}
		}
		do(t, m, drain, answer{N: 1})
		refused := drain
		if early {
			do(t, m, show, times(0, 0, 0, 0, 0, 0, 0, 0))
			refused = show
		}
		lots(t, m, 0, hold, 1)
		if early {
			do(t, m, drain, answer{N: 1})
		}
		refuse(t, m, 8, refused, no(api.ErrOver))
		refuse(t, m, 8, refused, no(api.ErrOver))
		do(t, m, pop(3), answer{N: 1})
		if a := m.Do(refused); a.Err != api.OK {
			t.Fatal(a)
		}
		for who := range 8 {
			for m.Do(pop(who)).N == 1 {
			}
		}
		do(t, m, show, times(0, 0, 0, 0, 0, 0, 0, 0))
		bags(t, "folded", m.Folded(), m.All()...)
	}
}
