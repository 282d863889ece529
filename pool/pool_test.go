package pool_test

import (
	"math"
	"slices"
	"testing"

	"marchland/api"
	"marchland/batch"
	"marchland/clock"
	"marchland/mem"
	"marchland/pool"
)

// drainer is who drains, where nothing else is said.
const drainer = 7

// most is the greatest Diff.
const most = int64(api.MaxCount)

// dice is a row of numbers that is the same each time.
type dice uint64

func (d *dice) roll(n int) int {
	*d = *d*6364136223846793005 + 1442695040888963407
	return int(uint64(*d)>>33) % n
}

func ch(port int, time uint64, diff int64) batch.Change {
	return batch.Change{Port: port, Time: time, Diff: diff}
}

// ofPorts is a Batch of one Change of each of some ports, rising.
func ofPorts(time uint64, diff int64, ports ...int) batch.Batch {
	var b batch.Batch
	for _, port := range ports {
		b = append(b, ch(port, time, diff))
	}
	return b
}

// kit is a Pool in a Mem of no more than it needs, but a latch to sleep by (the last one).
type kit struct {
	t      *testing.T
	m      *mem.Mem
	p      *pool.Pool
	shards int
}

func made(t *testing.T, shards int) *kit {
	t.Helper()
	m, e := mem.New(shards+1, shards, shards+1)
	if e != api.OK {
		t.Fatal(e)
	}
	p, e := pool.New(m, 0, 0, 0, shards)
	if e != api.OK || p == nil {
		t.Fatalf("New of %d shards: %v", shards, e)
	}
	return &kit{t: t, m: m, p: p, shards: shards}
}

// end steps an act till it is over: by nobody else's way that is so within 64 Steps.
func (k *kit) end(a *pool.Act) *pool.Act {
	k.t.Helper()
	if a == nil {
		k.t.Fatal("there is no act")
	}
	for i := 0; !a.Step(); i++ {
		if i == 64 {
			k.t.Fatalf("it isn't over within 64 Steps: %v", k.m.Log())
		}
	}
	return a
}

// put holds a Put that nobody meets against whether it should come off.
func (k *kit) put(who int, b batch.Batch, want bool) *pool.Act {
	k.t.Helper()
	a := k.end(k.p.Put(who, b))
	if a.Ok() != want || len(a.Batch()) != 0 {
		k.t.Fatalf("Put of %v: %v, %v", b, a.Ok(), a.Batch())
	}
	return a
}

// drain holds a Drain that nobody meets against what it should take, in which round.
func (k *kit) drain(want batch.Batch, round uint64) *pool.Act {
	k.t.Helper()
	a := k.end(k.p.Drain(drainer))
	if !a.Ok() || !batch.Same(a.Batch(), want) || !batch.Right(a.Batch()) || a.Round() != round {
		k.t.Fatalf("Drain: %v, %v, %d, want %v, %d", a.Ok(), a.Batch(), a.Round(), want, round)
	}
	return a
}

// free: is each latch nobody's?
func (k *kit) free() {
	k.t.Helper()
	for l := range k.shards + 1 {
		if k.m.Holder(l) != -1 {
			k.t.Fatalf("latch %d is %d's: %v", l, k.m.Holder(l), k.m.Log())
		}
	}
}

// apart holds the Log against layer 9.
func (k *kit) apart() {
	k.t.Helper()
	if i, j := clock.Race(k.m.Log()); i != -1 || j != -1 {
		k.t.Fatalf("a Race of %d and %d: %v", i, j, k.m.Log())
	}
}

// shardsOf: of which shards is there a Change, rising?
func shardsOf(b batch.Batch, shards int) []int {
	var l []int
	for shard := range shards {
		if slices.ContainsFunc(b, func(c batch.Change) bool { return c.Port%shards == shard }) {
			l = append(l, shard)
		}
	}
	return l
}

// upTo is 0, 1, .. n less 1.
func upTo(n int) []int {
	var l []int
	for i := range n {
		l = append(l, i)
	}
	return l
}

// P12.1: the document's example.
func TestExample(t *testing.T) {
	for shards := 1; shards <= 8; shards++ {
		k := made(t, shards)
		k.put(0, batch.Batch{ch(1, 5, 1)}, true)
		k.put(0, batch.Batch{ch(1, 5, 2)}, true)
		k.drain(batch.Batch{ch(1, 5, 3)}, 1)
	}
}

// P12.1
func TestWords(t *testing.T) {
	for shards := -100; shards <= 100; shards++ {
		want := 0
		if shards >= 1 && shards <= 8 {
			want = shards + 1
		}
		if got := pool.Words(shards); got != want {
			t.Errorf("Words(%d) = %d", shards, got)
		}
	}
	for _, shards := range []int{math.MinInt, math.MaxInt, 1 << 32, 1<<32 + 4, math.MinInt + 4} {
		if pool.Words(shards) != 0 {
			t.Errorf("Words(%d)", shards)
		}
	}
}

// P12.1, P1
func TestNew(t *testing.T) {
	m, _ := mem.New(20, 20, 20)
	for shards := 1; shards <= 8; shards++ {
		for _, at := range []int{0, 1, 11} {
			if p, e := pool.New(m, at, at+1, at+2, shards); p == nil || e != api.OK {
				t.Errorf("New of %d shards: %v", shards, e)
			}
		}
	}
	refused := func(m *mem.Mem, word, box, latch, shards int) {
		t.Helper()
		if p, e := pool.New(m, word, box, latch, shards); p != nil || e != api.ErrArg {
			t.Errorf("New at %d, %d, %d of %d shards: %v", word, box, latch, shards, e)
		}
	}
	for _, shards := range []int{math.MinInt, -8, -1, 0, 9, 10, 16, 1 << 32, 1<<32 + 1, math.MaxInt} {
		refused(m, 0, 0, 0, shards)
	}
	for _, below := range []int{-1, -2, math.MinInt} {
		refused(m, below, 0, 0, 4)
		refused(m, 0, below, 0, 4)
		refused(m, 0, 0, below, 4)
		refused(m, below, below, below, 4)
		refused(nil, below, below, below, 9)
	}
	refused(nil, 0, 0, 0, 4)
	if m.Time() != 0 {
		t.Error("New makes an access")
	}
}

// P12.1: what was put comes merged, each Change in its shard's box, till a Drain takes all.
func TestPutAndDrain(t *testing.T) {
	l := []batch.Batch{
		ofPorts(5, 1, upTo(64)...),
		{ch(0, 5, -1), ch(0, 6, 1), ch(9, 1, 4)},
		{ch(63, 0, most), ch(63, api.Never-1, -most)},
		nil,
		{ch(8, 5, -1), ch(16, 5, 1)},
		{ch(5, 5, 7)},
		{},
	}
	for shards := 1; shards <= 8; shards++ {
		k := made(t, shards)
		for round := range uint64(3) {
			var all batch.Batch
			for _, b := range l {
				if a := k.put(int(round), b, true); a.Round() != round {
					t.Fatalf("round %d, not %d", a.Round(), round)
				}
				all, _ = batch.Merge(all, b)
			}
			for box := range shards {
				want := slices.DeleteFunc(slices.Clone(all), func(c batch.Change) bool { return c.Port%shards != box })
				if got := k.m.Get(0, box); !batch.Same(got, want) {
					t.Fatalf("of %d shards box %d has %v, not %v", shards, box, got, want)
				}
			}
			k.drain(all, round+1)
			for box := range shards {
				if len(k.m.Get(0, box)) != 0 {
					t.Fatal("a Drain leaves something")
				}
			}
			k.free()
		}
	}
}

// P12.1: a Drain of nothing is a Drain.
func TestDrainOfNothing(t *testing.T) {
	for shards := 1; shards <= 8; shards++ {
		k := made(t, shards)
		k.drain(nil, 1)
		k.drain(nil, 2)
		k.put(0, batch.Batch{ch(3, 3, 3)}, true)
		k.put(1, batch.Batch{ch(3, 3, -3)}, true)
		k.drain(nil, 3)
		k.put(0, nil, true)
		k.drain(nil, 4)
		if k.p.Round(0) != 4 {
			t.Error("the round")
		}
		k.free()
	}
}

// P12.1: Round is one access.
func TestRound(t *testing.T) {
	for shards := 1; shards <= 8; shards++ {
		k := made(t, shards)
		for round := range uint64(5) {
			for who := range 3 {
				time := k.m.Time()
				if got := k.p.Round(who); got != round {
					t.Fatalf("Round %d, not %d", got, round)
				}
				l := k.m.Log()
				if len(l) != time+1 || l[time].Who != who || l[time].Kind != mem.Load || l[time].At < 0 || l[time].At >= shards+1 {
					t.Fatalf("Round: %v", l[time:])
				}
			}
			k.drain(nil, round+1)
		}
		// Who sleeps, or is nobody, makes none.
		k.m.Take(4, shards)
		k.m.Sleep(4, shards)
		time := k.m.Time()
		if k.p.Round(4) != 0 || k.p.Round(-1) != 0 || k.p.Round(math.MinInt) != 0 || k.m.Time() != time {
			t.Error("Round of nobody, or of who sleeps")
		}
		if k.p.Round(math.MaxInt) != 5 {
			t.Error("Round of somebody")
		}
	}
}

// P12.1: it lies in its own words, boxes and latches, and meets nothing else; each Put goes to its shards alone.
func TestWhereItLies(t *testing.T) {
	const word, box, latch = 3, 5, 7
	for shards := 1; shards <= 8; shards++ {
		m, _ := mem.New(word+2*(shards+1), box+2*shards, latch+2*shards)
		p, _ := pool.New(m, word, box, latch, shards)
		q, _ := pool.New(m, word+shards+1, box+shards, latch+shards, shards)
		k, other := &kit{t, m, p, shards}, &kit{t, m, q, shards}
		for _, b := range []batch.Batch{nil, ofPorts(1, 1, 0), ofPorts(1, 1, 7), ofPorts(1, 1, 3, 12, 63), ofPorts(1, 1, 8, 16, 17), ofPorts(2, 1, upTo(64)...)} {
			time := m.Time()
			k.put(0, b, true)
			within(t, m.Log()[time:], word, shards+1, box, latch, shardsOf(b, shards))
		}
		time := m.Time()
		k.end(p.Drain(drainer))
		within(t, m.Log()[time:], word, shards+1, box, latch, upTo(shards))
		k.put(0, ofPorts(4, 4, 4), true)
		other.drain(nil, 1)
		other.put(0, ofPorts(5, 5, 5), true)
		k.drain(ofPorts(4, 4, 4), 2)
		other.drain(ofPorts(5, 5, 5), 2)
	}
}

// within holds the accesses of one act against where it may go, which latches it takes in which order, and that it
// has all of them while it goes to boxes.
func within(t *testing.T, l []mem.Event, word, words, box, latch int, shards []int) {
	t.Helper()
	var took, freed []int
	for _, e := range l {
		switch e.Kind {
		case mem.Load, mem.Store:
			if e.At < word || e.At >= word+words {
				t.Fatalf("%v of %v", e, l)
			}
		case mem.Get, mem.Set:
			if !slices.Contains(shards, e.At-box) || len(took) != len(shards) || len(freed) > 0 {
				t.Fatalf("%v of %v", e, l)
			}
		case mem.Take:
			if !e.Ok || len(freed) > 0 {
				t.Fatalf("%v of %v", e, l)
			}
			took = append(took, e.At-latch)
		case mem.Free:
			if !e.Ok {
				t.Fatalf("%v of %v", e, l)
			}
			freed = append(freed, e.At-latch)
		default:
			t.Fatalf("%v of %v", e, l)
		}
	}
	if !slices.Equal(took, shards) {
		t.Fatalf("it took %v, not %v", took, shards)
	}
	slices.Sort(freed)
	if !slices.Equal(freed, shards) {
		t.Fatalf("it freed %v, not %v", freed, shards)
	}
}

// watch steps an act that nobody meets, and holds what it tells at each Step against the accesses that it made.
func (k *kit) watch(a *pool.Act, who int, ok bool, taken batch.Batch, round uint64) {
	k.t.Helper()
	t, m := k.t, k.m
	begin := m.Time()
	if a.Over() || a.Mark() != 0 || a.Ok() || len(a.Batch()) != 0 || a.Round() != 0 {
		t.Fatal("a begun act tells something")
	}
	marked := 0
	for over := false; !over; {
		if a.Over() || a.Ok() || len(a.Batch()) != 0 {
			t.Fatalf("it isn't over: %v, %v, %v", a.Over(), a.Ok(), a.Batch())
		}
		time := m.Time()
		over = a.Step()
		if l := m.Log(); len(l) != time+1 || l[time].Who != who {
			t.Fatalf("a Step isn't one access of who: %v", l[begin:])
		}
		if marked == 0 && a.Mark() != 0 {
			marked = a.Mark()
			if marked != m.Time() {
				t.Fatalf("Mark is %d at %d", marked, m.Time())
			}
		}
		if a.Mark() != marked || marked == 0 && a.Round() != 0 || marked > 0 && a.Round() != round {
			t.Fatalf("Mark %d, Round %d, want %d, %d", a.Mark(), a.Round(), marked, round)
		}
	}
	for range 3 {
		time := m.Time()
		if !a.Over() || a.Mark() != marked || a.Ok() != ok || !batch.Same(a.Batch(), taken) || a.Round() != round || !a.Step() || m.Time() != time {
			t.Fatalf("over: Mark %d, %v, %v, round %d", a.Mark(), a.Ok(), a.Batch(), a.Round())
		}
	}
	placed(t, m.Log()[begin:], marked-begin, ok)
	k.free()
}

// placed holds the Mark of an act against its accesses: one at which it had all its latches, behind its last Get and
// Set; of a Put that isn't Ok its last one.
func placed(t *testing.T, l []mem.Event, mark int, ok bool) {
	t.Helper()
	if mark < 1 || mark > len(l) || !ok && mark != len(l) {
		t.Fatalf("Mark is %d of %d", mark, len(l))
	}
	for i, e := range l {
		early := e.Kind == mem.Take || e.Kind == mem.Get || e.Kind == mem.Set
		if ok && (early && i >= mark-1 || e.Kind == mem.Free && i < mark) {
			t.Fatalf("Mark is %d: %v", mark, l)
		}
	}
}

// P12.1: Step by Step; a Put of no change, of changes of one shard, of all; ones that aren't Ok; Drains.
func TestSteps(t *testing.T) {
	full := ofPorts(5, most, upTo(64)...)
	for shards := 1; shards <= 8; shards++ {
		for round := range uint64(3) {
			k := made(t, shards)
			for r := range round {
				k.drain(nil, r+1)
			}
			k.put(0, full, true)
			for _, b := range []batch.Batch{nil, {}, ofPorts(4, 1, 0), ofPorts(4, 1, 7), ofPorts(4, 1, 0, 1), ofPorts(4, 1, upTo(64)...)} {
				k.watch(k.p.Put(3, b), 3, true, nil, round)
				k.watch(k.p.Put(3, batch.Minus(b)), 3, true, nil, round)
			}
			for _, b := range []batch.Batch{ofPorts(5, 1, 0), ofPorts(5, 1, 63), ofPorts(5, 1, 0, 5), ofPorts(5, 1, upTo(64)...), {ch(0, 4, 1), ch(5, 5, 1), ch(6, 4, 1)}} {
				k.watch(k.p.Put(3, b), 3, false, nil, round)
			}
			k.watch(k.p.Drain(4), 4, true, full, round+1)
			k.watch(k.p.Drain(4), 4, true, nil, round+2)
		}
	}
}

// P12.1: what an act told when it was over it tells ever after.
func TestOverStays(t *testing.T) {
	k := made(t, 2)
	a := k.put(0, ofPorts(5, 1, 1), true)
	markA := a.Mark()
	b := k.drain(ofPorts(5, 1, 1), 1)
	markB := b.Mark()
	k.put(0, ofPorts(5, 2, 1), true)
	k.drain(ofPorts(5, 2, 1), 2)
	k.drain(nil, 3)
	if a.Mark() != markA || a.Round() != 0 || !a.Ok() || b.Mark() != markB || b.Round() != 1 || !b.Ok() || !batch.Same(b.Batch(), ofPorts(5, 1, 1)) {
		t.Error("it is another one later")
	}
}

// P12.1, P5: a Put whose Merge isn't changes no shard, whichever it is that can't be.
func TestPutThatIsnt(t *testing.T) {
	for shards := 1; shards <= 8; shards++ {
		for port := range shards {
			for _, sign := range []int64{1, -1} {
				k := made(t, shards)
				had := batch.Batch{ch(port, 5, sign*most)}
				had, _ = batch.Merge(had, ofPorts(9, 4, upTo(shards)...))
				k.put(0, had, true)
				for _, diff := range []int64{1, 2, most} {
					b, _ := batch.Merge(ofPorts(3, 1, upTo(shards)...), batch.Batch{ch(port, 5, sign*diff)})
					k.put(1, b, false)
					k.put(1, batch.Batch{ch(port, 5, sign*diff)}, false)
					k.free()
					for box := range shards {
						want := slices.DeleteFunc(slices.Clone(had), func(c batch.Change) bool { return c.Port%shards != box })
						if got := k.m.Get(0, box); !batch.Same(got, want) {
							t.Fatalf("box %d has %v, not %v", box, got, want)
						}
					}
				}
				// What brings it back to what may be is Ok, and then there is room.
				k.put(1, batch.Batch{ch(port, 5, -sign)}, true)
				k.put(1, batch.Batch{ch(port, 5, sign*2)}, false)
				k.put(1, batch.Batch{ch(port, 5, sign)}, true)
				k.put(1, batch.Batch{ch(port, 6, sign*most)}, true)
				want, _ := batch.Merge(had, batch.Batch{ch(port, 6, sign*most)})
				k.drain(want, 1)
			}
		}
	}
}

// P12.1: while somebody has a shard's latch, whose Changes come wait for it, by a Take each Step, and those alone.
func TestLatchOfSomebody(t *testing.T) {
	const somebody = 9
	for shards := 1; shards <= 8; shards++ {
		for held := range shards {
			for _, b := range []batch.Batch{ofPorts(5, 1, upTo(shards)...), ofPorts(5, 1, held), ofPorts(5, 1, upTo(held)...), nil} {
				for _, who := range []int{0, somebody, drainer} {
					k := made(t, shards)
					k.m.Take(somebody, held)
					a, want := k.p.Put(who, b), shardsOf(b, shards)
					if who == drainer {
						a, want = k.p.Drain(who), upTo(shards)
					}
					if !slices.Contains(want, held) {
						k.end(a)
						continue
					}
					k.waits(a, who, held, want)
					if !k.m.Free(somebody, held) {
						t.Fatal("it was somebody else's no more")
					}
					k.end(a)
					if !a.Ok() || a.Mark() == 0 {
						t.Fatal("it didn't come off")
					}
					k.free()
					k.apart()
				}
			}
		}
	}
}

// waits: does an act take the latches ahead of one, and then try for that one alone?
func (k *kit) waits(a *pool.Act, who, held int, shards []int) {
	k.t.Helper()
	begin := k.m.Time()
	for range 150 {
		if a.Step() || a.Over() || a.Mark() != 0 || a.Ok() || a.Round() != 0 || len(a.Batch()) != 0 {
			k.t.Fatalf("it is over, or tells something: %v", k.m.Log())
		}
	}
	for i, e := range k.m.Log()[begin:] {
		want := mem.Event{Who: who, Kind: mem.Take, At: held}
		if i < slices.Index(shards, held) {
			want = mem.Event{Who: who, Kind: mem.Take, At: shards[i], Ok: true}
		}
		if e != want {
			k.t.Fatalf("%v, want %v", e, want)
		}
	}
}

// P12.1: who sleeps makes no access, at whatever Step, and goes on when he is woken.
func TestSleeper(t *testing.T) {
	full := ofPorts(5, most, 0, 1)
	for what := range 4 {
		for at := 0; ; at++ {
			k := made(t, 2)
			k.put(0, full, true)
			a := []*pool.Act{k.p.Put(3, nil), k.p.Put(3, ofPorts(4, 1, 0, 1)), k.p.Put(3, ofPorts(5, 1, 1)), k.p.Drain(3)}[what]
			for range at {
				a.Step()
			}
			over, mark, ok, round := a.Over(), a.Mark(), a.Ok(), a.Round()
			k.m.Take(3, 2)
			k.m.Sleep(3, 2)
			time := k.m.Time()
			for range 20 {
				if a.Step() != over || a.Over() != over || a.Mark() != mark || a.Ok() != ok || a.Round() != round || k.m.Time() != time {
					t.Fatalf("who sleeps behind %d Steps: %v", at, k.m.Log())
				}
			}
			if over {
				break
			}
			k.m.Take(9, 2)
			k.m.Wake(9, 2)
			k.m.Free(9, 2)
			k.end(a)
			if a.Ok() != (what != 2) {
				t.Fatal("it didn't come off")
			}
			k.free()
		}
	}
}

// P12.1, P1: a nil Pool, a nil Act, who below 0; ones that no call made neither.
func TestNil(t *testing.T) {
	for _, p := range []*pool.Pool{nil, new(pool.Pool)} {
		for _, who := range []int{math.MinInt, -1, 0, 1} {
			if p.Put(who, ofPorts(1, 1, 1)) != nil || p.Put(who, nil) != nil || p.Drain(who) != nil || p.Round(who) != 0 {
				t.Error("of a nil Pool")
			}
		}
	}
	for _, a := range []*pool.Act{nil, new(pool.Act)} {
		for range 3 {
			if !a.Step() || !a.Over() || a.Mark() != 0 || a.Ok() || len(a.Batch()) != 0 || a.Round() != 0 {
				t.Error("of a nil Act")
			}
		}
	}
	k := made(t, 2)
	for _, who := range []int{-1, -2, math.MinInt} {
		if k.p.Put(who, ofPorts(1, 1, 1)) != nil || k.p.Put(who, nil) != nil || k.p.Drain(who) != nil {
			t.Error("of nobody")
		}
	}
	if k.m.Time() != 0 {
		t.Error("that made an access")
	}
	k.drain(nil, 1)
	if a := k.end(k.p.Put(math.MaxInt, ofPorts(1, 1, 1))); !a.Ok() {
		t.Error("of somebody")
	}
}

// everyTurn runs something in all its turns: choose tells which of n is next.
func everyTurn(run func(choose func(n int) int)) {
	var path, widths []int
	for {
		at := 0
		run(func(n int) int {
			if at == len(path) {
				path, widths = append(path, 0), append(widths, n)
			}
			at++
			return path[at-1]
		})
		for len(path) > 0 && path[len(path)-1] == widths[len(path)-1]-1 {
			path, widths = path[:len(path)-1], widths[:len(path)-1]
		}
		if len(path) == 0 {
			return
		}
		path[len(path)-1]++
	}
}

// job is an act that is to be done; done is one of a run: when it began, and ended.
type job struct {
	drains bool
	b      batch.Batch
}

type done struct {
	job
	a          *pool.Act
	begin, end int
}

// worker does jobs, one behind the other.
type worker struct {
	who   int
	left  []job
	now   *done
	vain  bool
	latch int
}

// blocked: was its last Step in vain, and is the latch that it was for still somebody's?
func (k *kit) blocked(w *worker) bool { return w.vain && k.m.Holder(w.latch) >= 0 }

// step begins the next job, if none is under way, and goes on by one Step.
func (k *kit) step(w *worker, all *[]*done) {
	if w.now == nil {
		j := w.left[0]
		w.now = &done{job: j, begin: k.m.Time()}
		if j.drains {
			w.now.a = k.p.Drain(w.who)
		} else {
			w.now.a = k.p.Put(w.who, j.b)
		}
		*all = append(*all, w.now)
	}
	if w.now.a.Step() {
		w.now.end = k.m.Time()
		w.now = nil
		w.left = w.left[1:]
	}
}

// turns lets workers do their jobs by choices, in a Pool of so many shards that has something, and holds it against
// one thing behind the other.
func turns(t *testing.T, shards int, had batch.Batch, jobs [][]job, choose func(n int) int) {
	t.Helper()
	k := made(t, shards)
	k.put(9, had, true)
	var workers []*worker
	for who, l := range jobs {
		workers = append(workers, &worker{who: who, left: l})
	}
	var all []*done
	for {
		going := slices.DeleteFunc(slices.Clone(workers), func(w *worker) bool { return len(w.left) == 0 || k.blocked(w) })
		if len(going) == 0 {
			break
		}
		w := going[choose(len(going))]
		k.step(w, &all)
		l := k.m.Log()
		e := l[len(l)-1]
		w.vain, w.latch = e.Kind == mem.Take && !e.Ok, e.At
	}
	for _, w := range workers {
		if len(w.left) > 0 {
			t.Fatalf("%d is stuck: %v", w.who, k.m.Log())
		}
	}
	k.free()
	k.apart()
	k.oneBehindTheOther(had, 0, all)
}

// oneBehindTheOther goes through acts in the order of their Marks: P12.2. What is left, a last Drain tells.
func (k *kit) oneBehindTheOther(had batch.Batch, round uint64, all []*done) {
	k.t.Helper()
	slices.SortFunc(all, func(a, b *done) int { return a.a.Mark() - b.a.Mark() })
	last := 0
	for _, d := range all {
		mark := d.a.Mark()
		if mark <= last || mark <= d.begin || mark > d.end {
			k.t.Fatalf("Mark %d of what went from %d to %d, behind %d", mark, d.begin, d.end, last)
		}
		last = mark
		if d.drains {
			round++
			if !d.a.Ok() || !batch.Same(d.a.Batch(), had) || !batch.Right(d.a.Batch()) || d.a.Round() != round {
				k.t.Fatalf("Drain: %v, round %d, want %v, %d: %v", d.a.Batch(), d.a.Round(), had, round, k.m.Log())
			}
			had = nil
			continue
		}
		b, e := batch.Merge(had, d.b)
		if d.a.Ok() != (e == api.OK) || len(d.a.Batch()) != 0 || d.a.Round() != round {
			k.t.Fatalf("Put of %v: %v, round %d, want %v, %d: %v", d.b, d.a.Ok(), d.a.Round(), e, round, k.m.Log())
		}
		if e == api.OK {
			had = b
		}
	}
	k.drain(had, round+1)
}

func puts(l ...batch.Batch) []job {
	var jobs []job
	for _, b := range l {
		jobs = append(jobs, job{b: b})
	}
	return jobs
}

func drains(n int) []job { return slices.Repeat([]job{{drains: true}}, n) }

// P12.2, P12.4: Puts of several whos and a Drain in every turn (but that nobody tries again for a latch while it is
// still somebody's).
func TestEveryTurn(t *testing.T) {
	one, two, both := ofPorts(5, 1, 2), ofPorts(5, 1, 1), ofPorts(5, 1, 0, 1)
	had := ofPorts(9, 1, 0, 3)
	for _, c := range []struct {
		shards int
		jobs   [][]job
	}{
		{1, [][]job{puts(one), drains(1)}},
		{1, [][]job{puts(one), puts(two), drains(1)}},
		{1, [][]job{puts(one, nil), puts(two), drains(2)}},
		{2, [][]job{puts(nil), puts(one), drains(1)}},
		{2, [][]job{puts(one), puts(two), drains(1)}},
		{2, [][]job{puts(one), puts(both), drains(1)}},
		{2, [][]job{puts(both), puts(both), drains(1)}},
		{2, [][]job{puts(one, two), drains(1)}},
		{2, [][]job{puts(two), puts(one), puts(both)}},
		{2, [][]job{puts(one, one), puts(two)}},
		{3, [][]job{puts(both), drains(1)}},
		{3, [][]job{puts(ofPorts(5, 1, 0, 1, 2)), puts(ofPorts(5, 2, 1, 2))}},
		{8, [][]job{puts(ofPorts(5, 1, 0, 7)), drains(1)}},
	} {
		everyTurn(func(choose func(int) int) { turns(t, c.shards, had, c.jobs, choose) })
	}
}

// P12.2, P5: Puts that can't be, beside ones that make room, in every turn: in the order of the Marks, too, those
// that aren't Ok are those that can't be.
func TestNoRoomInEveryTurn(t *testing.T) {
	for port := range 2 {
		full := batch.Batch{ch(port, 5, most)}
		more := batch.Batch{ch(0, 5, 1), ch(1, 5, 1)}
		for _, jobs := range [][][]job{
			{puts(more), puts(batch.Minus(full))},
			{puts(more), puts(batch.Batch{ch(port, 5, -1)})},
			{puts(more), puts(batch.Minus(more))},
			{puts(more), puts(batch.Minus(full)), puts(batch.Batch{ch(port, 5, 2)})},
			{puts(more), drains(1)},
			{puts(more), puts(full), drains(1)},
			{puts(more, more), puts(batch.Minus(full))},
		} {
			everyTurn(func(choose func(int) int) { turns(t, 2, full, jobs, choose) })
		}
	}
}

// anyBatch is some Changes of few times, with Diffs that often are too great together.
func (d *dice) anyBatch() batch.Batch {
	l := make([]batch.Change, d.roll(9))
	for i := range l {
		diff := int64(d.roll(5)) - 2
		if d.roll(3) == 0 {
			diff *= most / 2
		}
		l[i] = ch(d.roll(12), uint64(d.roll(2)), diff)
	}
	b, _ := batch.Pack(l)
	return b
}

// P12.2, P12.4: many of them, of many whos, by turns that hurry now the one, now the other one; each tries for its
// latches as often as it is its turn.
func TestManyInManyTurns(t *testing.T) {
	d := dice(1)
	for shards := 1; shards <= 8; shards++ {
		for range 60 {
			k := made(t, shards)
			var workers []*worker
			for who := range 1 + d.roll(6) {
				var l []job
				for range d.roll(12) {
					l = append(l, job{b: d.anyBatch()})
				}
				workers = append(workers, &worker{who: who, left: l})
			}
			workers = append(workers, &worker{who: drainer, left: drains(d.roll(10))})
			var all []*done
			for {
				going := slices.DeleteFunc(slices.Clone(workers), func(w *worker) bool { return len(w.left) == 0 })
				if len(going) == 0 {
					break
				}
				w := going[d.roll(len(going))]
				for range 1 + d.roll(12) {
					if len(w.left) > 0 {
						k.step(w, &all)
					}
				}
			}
			k.free()
			k.apart()
			k.oneBehindTheOther(nil, 0, all)
		}
	}
}

// P12.3: n of them that are stepped in turn are over within n times 64 rounds; so nobody is stuck.
func TestInTurn(t *testing.T) {
	d := dice(2)
	whole := func(n int) batch.Batch { return ofPorts(uint64(n), 1, upTo(64)...) }
	other := func(n int) batch.Batch {
		return []batch.Batch{ofPorts(5, 1, n%64), d.anyBatch(), whole(n), nil, ofPorts(6, most, 0, 1)}[n%5]
	}
	for shards := 1; shards <= 8; shards++ {
		for _, b := range []func(int) batch.Batch{whole, other} {
			for n := 1; n <= 20; n++ {
				for _, drain := range []int{-1, 0, n / 2, n - 1} {
					k := made(t, shards)
					var acts []*pool.Act
					for who := range n {
						if who == drain {
							acts = append(acts, k.p.Drain(who))
						} else {
							acts = append(acts, k.p.Put(who, b(who)))
						}
					}
					if d.roll(2) == 0 {
						slices.Reverse(acts)
					}
					k.inTurn(acts, n*64)
				}
			}
		}
	}
}

// inTurn steps acts in turn, and holds it against so many rounds.
func (k *kit) inTurn(acts []*pool.Act, rounds int) {
	k.t.Helper()
	for range rounds {
		for _, a := range acts {
			a.Step()
		}
	}
	for _, a := range acts {
		if !a.Over() {
			k.t.Fatalf("it isn't over within %d rounds", rounds)
		}
	}
	k.free()
	k.apart()
}

// P5: what is answered hangs on no number of shards.
func TestShardsTellNothing(t *testing.T) {
	type answer struct {
		ok    bool
		round uint64
		taken string
	}
	text := func(b batch.Batch) string {
		s := ""
		for _, c := range b {
			s += string(rune('a'+c.Port)) + string(rune('a'+c.Time))
			for digits := uint64(c.Diff); digits > 0; digits /= 16 {
				s += string(rune('0' + digits%16))
			}
		}
		return s
	}
	var want []answer
	for shards := 1; shards <= 8; shards++ {
		k, d := made(t, shards), dice(9)
		var got []answer
		for range 400 {
			if d.roll(12) == 0 {
				a := k.end(k.p.Drain(drainer))
				got = append(got, answer{a.Ok(), a.Round(), text(a.Batch())})
				continue
			}
			a := k.end(k.p.Put(d.roll(4), d.anyBatch()))
			got = append(got, answer{a.Ok(), a.Round(), text(a.Batch())})
		}
		if shards == 1 {
			want = got
		}
		if !slices.Equal(got, want) {
			t.Errorf("of %d shards other things are answered than of 1", shards)
		}
	}
	refused := slices.DeleteFunc(slices.Clone(want), func(a answer) bool { return a.ok })
	if len(refused) < 10 || len(refused) > 300 {
		t.Errorf("%d Puts weren't Ok: the test tells little", len(refused))
	}
}

// spoil overwrites a Batch, its spare room too.
func spoil(b batch.Batch) {
	b = b[:cap(b)]
	for i := range b {
		b[i] = ch(44, 44, 44)
	}
}

// P12.5: the Batch that is handed in is neither kept nor changed, its spare room neither.
func TestPutKeepsNothing(t *testing.T) {
	b := ofPorts(5, 1, 0, 1, 2, 3)
	for shards := 1; shards <= 4; shards++ {
		for steps := range 20 {
			k := made(t, shards)
			room := append(slices.Grow(batch.Batch{}, 9), b...)
			whole := slices.Clone(room[:cap(room)])
			a := k.p.Put(0, room)
			for range steps {
				a.Step()
			}
			if !slices.Equal(room[:cap(room)], whole) {
				t.Fatal("what is handed in is changed")
			}
			spoil(room)
			k.end(a)
			for _, c := range room[:cap(room)] {
				if c != ch(44, 44, 44) {
					t.Fatal("what is handed in is changed")
				}
			}
			k.drain(b, 1)
		}
	}
}

// P12.5: what is told is new each time, and shares with nothing.
func TestBatchIsNew(t *testing.T) {
	for shards := 1; shards <= 4; shards++ {
		k := made(t, shards)
		b := ofPorts(5, 1, 0, 1, 2, 3)
		k.put(0, b, true)
		k.put(0, b, true)
		for box := range shards {
			spoil(k.m.Get(0, box))
		}
		twice := ofPorts(5, 2, 0, 1, 2, 3)
		a := k.drain(twice, 1)
		first, second := a.Batch(), a.Batch()
		spoil(first)
		if !batch.Same(second, twice) || !batch.Same(a.Batch(), twice) {
			t.Fatal("two answers share")
		}
		k.put(0, b, true)
		spoil(second)
		spoil(a.Batch())
		k.drain(b, 2)
	}
}

// P1: words, boxes and latches that there aren't: all ends.
func TestThingsThatThereArent(t *testing.T) {
	places := []int{0, 1, 3, 4, 5, 65535, 65536, math.MaxInt - 3, math.MaxInt}
	for _, sizes := range [][3]int{{0, 0, 0}, {1, 1, 1}, {5, 4, 0}, {5, 0, 4}, {0, 4, 4}, {5, 4, 2}, {5, 2, 4}, {65536, 65536, 65536}} {
		for _, word := range places {
			for _, at := range places {
				for _, shards := range []int{1, 4, 8} {
					m, _ := mem.New(sizes[0], sizes[1], sizes[2])
					p, e := pool.New(m, word, at, at, shards)
					if e != api.OK {
						t.Fatal(e)
					}
					k := &kit{t, m, p, shards}
					k.end(p.Put(0, ofPorts(5, most, upTo(8)...))).Batch()
					k.end(p.Put(1, ofPorts(5, most, upTo(8)...))).Batch()
					k.end(p.Drain(2)).Batch()
					k.end(p.Drain(2)).Batch()
					p.Round(0)
				}
			}
		}
	}
}

// P1: of lists that aren't Right, and boxes that have such, all that is asked is an end.
func TestWrongBatches(t *testing.T) {
	d := dice(4)
	ports := []int{math.MinInt, -9, -1, 0, 1, 63, 64, math.MaxInt}
	times := []uint64{0, 1, api.Never - 1, api.Never}
	diffs := []int64{math.MinInt64, -most - 1, -most, 0, 1, most, math.MaxInt64}
	wrong := func() batch.Batch {
		b := make(batch.Batch, d.roll(30))
		for i := range b {
			b[i] = ch(ports[d.roll(len(ports))], times[d.roll(len(times))], diffs[d.roll(len(diffs))])
		}
		return b
	}
	for range 300 {
		k := made(t, 1+d.roll(8))
		for range 6 {
			k.m.Set(0, d.roll(k.shards), wrong())
			k.end(k.p.Put(0, wrong()))
			k.end(k.p.Put(1, wrong()))
			if d.roll(2) == 0 {
				k.end(k.p.Drain(2)).Batch()
			}
			k.free()
		}
	}
}

// P12.1: great Batches, of many times.
func TestManyChanges(t *testing.T) {
	for shards := 1; shards <= 8; shards++ {
		k := made(t, shards)
		var all batch.Batch
		for port := range 64 {
			for time := range uint64(50) {
				all = append(all, ch(port, time, int64(port)+1))
			}
		}
		k.put(0, all, true)
		k.put(0, all, true)
		k.put(0, batch.Minus(all), true)
		k.put(0, nil, true)
		k.drain(all, 1)
	}
}

// P1: acts of one who that are under way beside each other, and two who drain: all ends, in turn, and no latch stays.
func TestBesideEachOther(t *testing.T) {
	for shards := 1; shards <= 8; shards++ {
		k := made(t, shards)
		var acts []*pool.Act
		for n := range 9 {
			acts = append(acts, k.p.Put(0, ofPorts(uint64(n), 1, upTo(8)...)), k.p.Drain(n%2))
		}
		k.inTurn(acts, len(acts)*64)
		for i, a := range acts {
			if !a.Ok() || a.Mark() == 0 {
				t.Fatalf("act %d", i)
			}
		}
		if k.p.Round(0) != 9 {
			t.Error("the round")
		}
	}
}
