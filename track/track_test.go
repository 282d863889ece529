package track_test

import (
	"math"
	"slices"
	"testing"

	"marchland/api"
	"marchland/batch"
	"marchland/claim"
	"marchland/fault"
	"marchland/graph"
	"marchland/hist"
	"marchland/mem"
	"marchland/model"
	"marchland/track"
)

// P16.1: the document's example.
func TestExample(t *testing.T) {
	k := made(t, one())
	k.do(0, advance(0, 5), fine)
	k.sweep(ch(0, 0, -1), ch(0, 5, 1))
	k.do(0, done(0, 4), num(1))
	k.do(0, done(0, 5), num(0))
	k.right()
}

// P16.1, P1: of a plan that isn't right there is no Track, and no Bound.
func TestNewRefuses(t *testing.T) {
	wrong := []model.Plan{{}, plan(1, 0, nil, 0), plan(1, 65, nil, 0), plan(1, 1, nil), plan(1, 1, nil, 0, 0), plan(1, 1, nil, 1)}
	wrong = append(wrong, plan(1, 2, edges{{From: 0, To: 2}}, 0), plan(1, 1, edges{{}}, 0), plan(0, 1, nil, 0), plan(9, 1, nil, 0), plan(-1, 1, nil, 0))
	for _, l := range [][3]int{{0, 1, 1}, {3, 1, 1}, {128, 1, 1}, {1, 0, 1}, {1, 9, 1}, {1, 1, 0}, {1, 1, 9}, {math.MinInt, 1, 1}, {1, math.MaxInt, 1}} {
		wrong = append(wrong, room(one(), l[0], l[1], l[2]))
	}
	for _, p := range wrong {
		x, e := track.New(p)
		if want := fault.Text(model.Check(p)); x != nil || fault.Text(e) != want || want == "ok" {
			t.Errorf("New of %v: %v, want %s", p, e, want)
		}
		if b := track.Bound(p); b != 0 {
			t.Errorf("Bound of %v: %d", p, b)
		}
	}
}

// wide is a plan of as much as there may be.
func wide() model.Plan {
	p := room(plan(8, 64, nil, 0, 9, 18, 27, 36, 45, 54, 63), 64, 8, 8)
	for port := range 63 {
		p.Graph.Edges = append(p.Graph.Edges, graph.Edge{From: port, To: port + 1, Add: uint64(port % 3)})
	}
	return p
}

// P16.1: of plans that are right there is one: with what a Model has at first.
func TestNew(t *testing.T) {
	plans := []model.Plan{one(), two(), wide(), plan(3, 4, nil, 3, 1, 0, 2), plan(8, 1, nil, 0), plan(1, 8, nil, 7, 6, 5, 4, 3, 2, 1, 0)}
	for n := 1; n <= 8; n++ {
		plans = append(plans, room(two(), 1<<((n-1)%7), n, 9-n), plan(n, 2, nil, 1, 0))
	}
	for _, p := range plans {
		k := made(t, p)
		m, _ := model.New(p)
		for who := -1; who <= p.Threads; who++ {
			if !sameOwn(k.x.Own(who), m.Own(who)) {
				t.Errorf("of %v: %d has %v, want %v", p, who, k.x.Own(who), m.Own(who))
			}
		}
		if k.x.Mem() == nil || len(k.x.Log()) != 0 || track.Bound(p) != 8192*(p.Threads+1) {
			t.Errorf("of %v: %v, Bound %d", p, k.x.Log(), track.Bound(p))
		}
		k.free()
		k.do(0, fronts, times(m.Shown()...))
		k.sweep()
		m.Do(op{Kind: model.Show})
		k.do(0, fronts, times(m.Shown()...))
		k.right()
	}
}

// P16.1, P1: of a nil Track, one that New didn't make, and a nil Act.
func TestNothing(t *testing.T) {
	var none *track.Track
	for _, x := range []*track.Track{none, {}} {
		if x.Mem() != nil || x.Log() != nil || x.Do(0, fronts) != nil || x.Sweep() != nil || !sameOwn(x.Own(0), claim.Own{}) {
			t.Error("of nothing there is something")
		}
	}
	var gone *track.Act
	for _, a := range []*track.Act{gone, {}} {
		if !a.Step() || !a.Over() || a.Asleep() || !model.Same(a.Answer(), fine) || a.Fault() != nil || a.Folded() != nil {
			t.Error("of no act there is something")
		}
	}
}

// P16.1: who is no thread, what is of no Kind of theirs, and who is in the midst of something begins nothing.
func TestWhoBegins(t *testing.T) {
	k := made(t, two())
	for _, who := range []int{-1, 2, 3, math.MinInt, math.MaxInt} {
		if k.x.Do(who, fronts) != nil {
			t.Errorf("%d began something", who)
		}
	}
	for _, kind := range []int{-1, model.Put, model.Drain, model.Pop, model.Show, 12, math.MinInt, math.MaxInt} {
		if k.x.Do(0, op{Kind: kind}) != nil {
			t.Errorf("something of Kind %d was begun", kind)
		}
	}
	time := k.x.Mem().Time()
	if len(k.x.Log()) != 0 {
		t.Errorf("nothing was begun: %v", k.x.Log())
	}
	for kind := model.Open; kind <= model.Shut; kind++ {
		k := made(t, two())
		a, s := k.begin(0, op{Kind: kind}), k.begin(2, op{})
		if a.Over() || s.Over() || k.x.Mem().Time() != time || len(k.x.Log()) != 2 {
			t.Fatalf("Kind %d: what is begun made an access: %v", kind, k.x.Log())
		}
		for !a.Over() && !a.Asleep() {
			if k.x.Do(0, fronts) != nil || k.x.Sweep() != nil {
				t.Fatalf("Kind %d: two things of one", kind)
			}
			a.Step()
		}
		k.do(1, shut, fine)
		k.end(s)
		k.end(a)
		k.end(k.begin(0, fronts))
		k.end(k.begin(2, op{}))
		k.right()
	}
}

// P16.1: o's Who counts for nothing; what isn't needed of it stands in the Log as it was told.
func TestWhose(t *testing.T) {
	k := made(t, two())
	for _, who := range []int{1, 0, 9, -1} {
		k.do(0, op{Kind: model.Done, Who: who, Hand: 7, Port: 1, L: []change{ch(1, 2, 3)}, Way: 9}, num(0))
		k.tells(said{0, op{Kind: model.Done, Hand: 7, Port: 1, L: []change{ch(1, 2, 3)}, Way: 9}, fine})
	}
	k.do(1, op{Kind: model.Advance, Hand: 1, Time: 4}, fine)
	k.do(0, op{Kind: model.Advance, Who: 1, Hand: 1, Time: 4}, no(api.ErrStale))
	k.owns(0, []claim.Hand{hd(0, 0, 0)})
	k.owns(1, []claim.Hand{hd(1, 1, 4)})
}

// P16.1: Open, and how its Ids come from the Table, that all have.
func TestOpen(t *testing.T) {
	k := made(t, two())
	k.do(0, open(0), num(2))
	k.do(1, open(1), num(3))
	k.owns(0, []claim.Hand{hd(0, 0, 0), hd(2, 0, 0)})
	k.owns(1, []claim.Hand{hd(1, 1, 0), hd(3, 1, 0)})
	for _, hand := range []int{1, 3, 4, 64, -1, math.MinInt, math.MaxInt} {
		k.do(0, open(hand), no(api.ErrStale))
	}
	k.do(0, shutHand(0), fine)
	k.do(0, open(0), no(api.ErrStale))
	k.do(1, open(3), num(64))
	k.do(1, shutHand(64), fine)
	k.do(0, open(2), num(128))
	k.owns(0, []claim.Hand{hd(2, 0, 0), hd(128, 0, 0)})
	k.owns(1, []claim.Hand{hd(1, 1, 0), hd(3, 1, 0)})
	k.right()
	k.free()
}

// P16.1: where the Table has no free Slot; that there is no handle goes ahead of it.
func TestOpenTillFull(t *testing.T) {
	k := made(t, two())
	for id := 2; id < api.MaxHandles; id++ {
		k.do(id%2, open(id%2), num(id))
	}
	for who := range 2 {
		k.do(who, open(who), no(api.ErrFull))
		k.do(who, open(1-who), no(api.ErrStale))
	}
	k.do(1, shutHand(63), fine)
	k.do(0, open(0), num(63+64))
	k.do(1, open(1), no(api.ErrFull))
	k.do(0, shutHand(0), fine)
	k.do(0, shutHand(63+64), fine)
	k.do(1, open(1), num(64))
	k.do(1, open(1), num(63+128))
	k.right()
	k.free()
}

// P16.1: the Fault of Advance, Close and Update is claim's error; of all its Kind is the Answer's.
func TestFaults(t *testing.T) {
	k := made(t, two())
	k.do(0, advance(0, 5), fine)
	for _, c := range []struct {
		o    op
		want answer
		text string
	}{
		{open(1), no(api.ErrStale), ""},
		{advance(1, 5), no(api.ErrStale), "handle 1: stale"},
		{advance(-3, 5), no(api.ErrStale), "handle -3: stale"},
		{advance(0, never), no(api.ErrArg), "argument"},
		{advance(0, 4), no(api.ErrBack), "back"},
		{shutHand(1), no(api.ErrStale), "handle 1: stale"},
		{shutHand(64), no(api.ErrStale), "handle 64: stale"},
		{update(ch(1, 5, 1)), no(api.ErrUnjustified), "change 0: unjustified"},
		{update(ch(1, 8, 1), ch(0, 9, -1)), no(api.ErrUnjustified), "change 0: unjustified"},
		{update(ch(1, 8, 1), ch(2, 9, 1)), no(api.ErrPort), "change 1: port"},
		{update(ch(1, 8, api.MaxHold+1)), no(api.ErrOver), "change 0: over"},
		{update(ch(64, 8, 1)), no(api.ErrPort), "port"},
		{update(ch(1, never, 1)), no(api.ErrArg), "argument"},
		{update(make([]change, 17)...), no(api.ErrMany), "many"},
		{done(2, 0), no(api.ErrPort), ""},
		{done(-1, 0), no(api.ErrPort), ""},
		{wait(2, 0), no(api.ErrPort), ""},
		{wait(math.MinInt, 0), no(api.ErrPort), ""},
		{update(), fine, "ok"},
		{update(ch(1, 8, 1)), fine, "ok"},
		{fronts, times(0, 0), "ok"},
	} {
		a := k.do(0, c.o, c.want)
		if got := fault.Text(a.Fault()); c.text != "" && got != c.text {
			t.Errorf("%v: %s, want %s", c.o, got, c.text)
		}
	}
	k.owns(0, []claim.Hand{hd(0, 0, 5)}, ch(1, 8, 1))
	k.right()
	k.free()
}

// P16.1: when it is shut nothing changes any more, but what is asked is answered; shut again it is still shut.
func TestShut(t *testing.T) {
	k := made(t, two())
	k.do(0, advance(0, 5), fine)
	k.do(1, shut, fine)
	k.do(0, shut, fine)
	for _, o := range []op{open(0), open(7), advance(0, 6), advance(0, 4), advance(7, 6), shutHand(0), shutHand(7), update(ch(0, 5, 1)), update(ch(64, 0, 0)), wait(0, 0), wait(1, 9)} {
		a := k.do(0, o, no(api.ErrClosed))
		if a.Fault() == nil || fault.Text(a.Fault()) != "closed" {
			t.Errorf("%v: %v", o, a.Fault())
		}
	}
	k.do(0, wait(2, 0), no(api.ErrPort))
	k.do(0, done(2, 0), no(api.ErrPort))
	k.do(0, fronts, times(0, 0))
	k.owns(0, []claim.Hand{hd(0, 0, 5)})
	k.sweep(ch(0, 0, -1), ch(0, 5, 1))
	k.do(0, fronts, times(5, 0))
	k.do(0, done(0, 4), num(1))
	k.do(0, done(0, 5), num(0))
	k.do(1, wait(0, 4), no(api.ErrClosed))
	k.right()
	k.free()
}

// P16.1, P5: what is refused changes nothing, and puts nothing.
func TestRefused(t *testing.T) {
	k := made(t, two())
	k.do(0, update(ch(0, 3, 2)), fine)
	own := k.x.Own(0)
	for _, o := range []op{open(1), advance(0, never), advance(1, 3), shutHand(1), update(ch(0, 3, -3)), update(ch(0, 3, -1), ch(1, 2, 1)), done(5, 0), wait(5, 0)} {
		many := len(k.x.Log())
		k.end(k.begin(0, o))
		if got := k.x.Log(); !sameOwn(own, k.x.Own(0)) || len(got) != many+1 || got[many].Answer.Err == api.OK {
			t.Errorf("%v: %v, %v", o, k.x.Own(0), got[many:])
		}
	}
	k.sweep(ch(0, 3, 2))
	k.do(0, open(0), num(2))
	k.right()
}

// P16.1: into the ring, and where that is full into the pool; and into that as long as something of its own is there.
func TestWaysOfPuts(t *testing.T) {
	k := made(t, one())
	ring := func(n int) said { return said{0, op{Kind: model.Put}, num(n)} }
	pool := said{0, op{Kind: model.Put, Way: 1}, num(1)}
	drained := func(n int) said { return said{1, op{Kind: model.Drain}, num(n)} }
	popped := func(n int) said { return said{1, op{Kind: model.Pop}, num(n)} }
	shown := func(l ...uint64) said { return said{1, op{Kind: model.Show}, times(l...)} }

	k.do(0, advance(0, 5), fine)
	k.tells(said{0, advance(0, 5), fine}, ring(1))
	k.do(0, open(0), num(1))
	k.tells(said{0, open(0), num(1)}, ring(0), pool)
	k.do(0, advance(1, 9), fine)
	k.tells(said{0, advance(1, 9), fine}, pool)
	k.do(0, advance(1, 9), fine)
	k.tells(pool, said{0, advance(1, 9), fine})
	k.sweep(ch(0, 0, -1), ch(0, 5, 1), ch(0, 9, 1))
	k.tells(said{0, advance(1, 9), fine}, drained(1), popped(1), shown(5))
	k.do(0, fronts, times(5))
	k.do(0, shutHand(0), fine)
	k.tells(shown(5), said{0, fronts, times(5)}, said{0, shutHand(0), fine}, ring(1))
	k.sweep(ch(0, 5, -1))
	k.tells(drained(0), popped(1), shown(9))
	k.sweep()
	k.tells(drained(0), popped(0), shown(9))
	k.do(0, shutHand(1), fine)
	k.do(0, advance(1, 10), no(api.ErrStale))
	k.sweep(ch(0, 9, -1))
	k.do(0, fronts, times(never))
	k.do(0, done(0, never), num(0))
	k.do(0, done(0, never-1), num(1))
	k.right()
	k.apart()
}

// P16.1: a Batch of another thread's in the pool is nothing to a thread.
func TestPoolOfOthers(t *testing.T) {
	k := made(t, two())
	k.do(0, advance(0, 1), fine)
	k.do(0, advance(0, 2), fine)
	k.do(1, advance(1, 1), fine)
	k.tells(said{0, op{Kind: model.Put, Way: 1}, num(1)}, said{1, op{Kind: model.Advance, Who: 1, Hand: 1, Time: 1}, fine}, said{1, op{Kind: model.Put, Who: 1}, num(1)})
	k.do(1, advance(1, 2), fine)
	k.tells(said{1, op{Kind: model.Put, Who: 1}, num(0)}, said{1, op{Kind: model.Put, Who: 1, Way: 1}, num(1)})
	k.sweep(ch(0, 0, -1), ch(0, 2, 1), ch(1, 0, -1), ch(1, 2, 1))
	k.right()
}

// P16.1: a Sweep pops of each thread in turn, till there is none, or as many as there is room for.
func TestPops(t *testing.T) {
	k := made(t, room(plan(3, 3, nil, 0, 1, 2), 2, 2, 1))
	k.do(1, advance(1, 1), fine)
	for time := range uint64(3) {
		k.do(2, advance(2, time+1), fine)
	}
	k.sweep(ch(1, 0, -1), ch(1, 1, 1), ch(2, 0, -1), ch(2, 3, 1))
	drained, shown := said{3, op{Kind: model.Drain}, num(2)}, said{3, op{Kind: model.Show}, times(0, 1, 3)}
	popped := func(who, n int) said { return said{3, op{Kind: model.Pop, Who: who}, num(n)} }
	k.tells(drained, popped(0, 0), popped(1, 1), popped(1, 0), popped(2, 1), popped(2, 1), shown)
	k.right()
	k.free()
}

// P16.1, P4: a thread that goes on and on doesn't hold a Sweep up: as many as there is room for are popped, and not one more.
func TestPopsOfWhoGoesOn(t *testing.T) {
	for ring := 1; ring <= 8; ring *= 2 {
		k := made(t, room(one(), ring, 1, 1))
		for time := range ring {
			k.do(0, advance(0, uint64(time+1)), fine)
		}
		many := 0
		for s := k.begin(1, op{}); !s.Step(); {
			if now := k.popped(); now > many {
				many = now
				k.do(0, advance(0, uint64(ring+many)), fine)
				k.tells(said{0, op{Kind: model.Put}, num(1)})
			}
		}
		if many = k.popped(); many != ring {
			t.Errorf("of %d: %d were popped", ring, many)
		}
		k.do(0, fronts, times(uint64(ring)))
		k.right()
		k.apart()
		k.safe()
	}
}

// popped is how many Batches were popped ever.
func (k *kit) popped() int {
	many := 0
	for _, x := range k.x.Log() {
		if x.Op.Kind == model.Pop {
			many += x.Answer.N
		}
	}
	return many
}

// P16.1: as much as threads may hold, all of one port and time, by rings and by the pool.
func TestMuch(t *testing.T) {
	p := plan(8, 8, nil, 0, 1, 2, 3, 4, 5, 6, 7)
	for port := range 7 {
		p.Graph.Edges = append(p.Graph.Edges, graph.Edge{From: port, To: 7})
	}
	k := made(t, p)
	for _, c := range []struct {
		diff, more int64
		want       api.Errno
	}{
		{api.MaxHold, 1, api.ErrOver},
		{-api.MaxHold, -1, api.ErrUnjustified},
		{api.MaxHold, api.MaxHold, api.ErrOver},
	} {
		for who := range 8 {
			k.do(who, update(ch(7, 9, c.diff)), fine)
			k.do(who, update(ch(7, 9, c.more)), no(c.want))
		}
	}
	k.sweep(ch(7, 9, 8*api.MaxHold))
	for who := range 8 {
		k.do(who, update(ch(7, 9, -api.MaxHold)), fine)
	}
	k.sweep(ch(7, 9, -8*api.MaxHold))
	k.right()
	k.safe()
}

// P16.1: Done and Wait by what is shown, and not by what is held.
func TestDoneAndWait(t *testing.T) {
	k := made(t, two())
	k.do(0, advance(0, 5), fine)
	k.do(1, advance(1, 7), fine)
	for _, o := range []op{done(0, 0), done(1, 0), done(0, never)} {
		k.do(0, o, num(0))
	}
	k.sweep(ch(0, 0, -1), ch(0, 5, 1), ch(1, 0, -1), ch(1, 7, 1))
	for who := range 2 {
		k.do(who, fronts, times(5, 7))
		for port, time := range []uint64{5, 7} {
			k.do(who, done(port, time-1), num(1))
			k.do(who, wait(port, time-1), num(1))
			k.do(who, wait(port, 0), num(1))
			k.do(who, done(port, time), num(0))
			k.do(who, done(port, never), num(0))
		}
	}
	k.right()
	k.free()
}

// P16.1: a Wait sleeps till a Sweep shows enough; whatever else is done doesn't wake it.
func TestWaitTillShown(t *testing.T) {
	k := made(t, two())
	w := k.asleep(1, wait(0, 4))
	for time := uint64(1); time <= 4; time++ {
		k.do(0, advance(0, time), fine)
		k.do(0, done(0, 0), num(0))
		k.stays(w)
		if time == 4 {
			k.sweep(ch(0, 0, -1), ch(0, 4, 1))
		}
	}
	// It is woken, and looks again; of the time that it waits for it is still too early.
	if w.Asleep() || w.Over() {
		t.Fatal("nobody woke it")
	}
	k.sleeps(w)
	k.stays(w)
	k.do(0, open(0), num(2))
	k.do(0, shutHand(2), fine)
	k.do(0, update(ch(1, 9, 1)), fine)
	k.stays(w)
	k.do(0, advance(0, 5), fine)
	k.sweep(ch(0, 4, -1), ch(0, 5, 1), ch(1, 9, 1))
	if a := k.end(w); !model.Same(a.Answer(), num(1)) || a.Fault() != nil {
		t.Error(a.Answer())
	}
	k.right()
	k.free()
	k.safe()
}

// stays: one that sleeps makes no access, and has no answer; its thread begins nothing else.
func (k *kit) stays(w *track.Act) {
	k.t.Helper()
	time := k.x.Mem().Time()
	for range 3 {
		if w.Step() || w.Over() || !w.Asleep() || !model.Same(w.Answer(), fine) || w.Fault() != nil || w.Folded() != nil {
			k.t.Fatalf("who sleeps goes on: %v", w.Answer())
		}
	}
	if k.x.Mem().Time() != time {
		k.t.Fatal("who sleeps makes accesses")
	}
	l := k.x.Log()
	if x := l[slices.IndexFunc(l, func(x hist.Entry) bool { return x.Op.Kind == model.Wait })]; x.Mark != 0 || x.End != 0 || k.x.Do(x.Who, fronts) != nil {
		k.t.Fatalf("who sleeps has done something: %v", x)
	}
}

// P16.1, P4: Shut wakes all who sleep; a Sweep wakes all of them, too.
func TestAllAreWoken(t *testing.T) {
	for _, closes := range []bool{true, false} {
		k := made(t, plan(4, 1, nil, 0))
		var l []*track.Act
		for who := 1; who < 4; who++ {
			l = append(l, k.asleep(who, wait(0, uint64(who))))
		}
		want := num(1)
		if closes {
			k.do(0, shut, fine)
			want = no(api.ErrClosed)
		} else {
			k.do(0, advance(0, 9), fine)
			k.sweep(ch(0, 0, -1), ch(0, 9, 1))
		}
		for _, w := range l {
			if w.Asleep() || w.Over() {
				t.Error("nobody woke it")
			}
			if a := k.end(w); !model.Same(a.Answer(), want) || fault.Kind(a.Fault()) != want.Err {
				t.Errorf("a Wait: %v, want %v", a.Answer(), want)
			}
		}
		k.right()
		k.free()
		k.safe()
	}
}

// P16.1: each Step of an act is one access of its who's, and what is over makes none.
func TestSteps(t *testing.T) {
	things := []op{open(0), advance(0, 4), update(ch(1, 9, 1)), open(0), shutHand(2), fronts, done(0, 1), wait(9, 0), done(9, 0), advance(0, 5), open(9), shut, wait(0, 9), open(0)}
	for _, p := range []model.Plan{two(), room(two(), 4, 3, 2), room(two(), 1, 2, 8)} {
		k := made(t, p)
		for i, o := range append(things, things...) {
			k.eachStep(k.begin(0, o), 0)
			if i%3 == 0 {
				k.eachStep(k.begin(2, op{}), 2)
			}
		}
		k.right()
	}
}

func (k *kit) eachStep(a *track.Act, who int) {
	k.t.Helper()
	for over := false; !over; {
		time := k.x.Mem().Time()
		if a.Over() || !model.Same(a.Answer(), fine) || a.Fault() != nil || a.Folded() != nil {
			k.t.Fatal("what isn't over has an answer")
		}
		over = a.Step()
		if l := k.x.Mem().Log()[time:]; len(l) != 1 || l[0].Who != who || over != a.Over() {
			k.t.Fatalf("a Step of %d's: %v, over %v, %v", who, l, over, a.Over())
		}
	}
	time, answer, folded := k.x.Mem().Time(), a.Answer(), a.Folded()
	for range 2 {
		if !a.Step() || !a.Over() || a.Asleep() || k.x.Mem().Time() != time || !model.Same(a.Answer(), answer) || !batch.Same(a.Folded(), folded) {
			k.t.Fatal("what is over goes on")
		}
	}
}

// P16.1: what the Log tells while something isn't over: no End and no Answer; its Mark as soon as it took effect.
func TestLogInTheMidst(t *testing.T) {
	for _, o := range []op{open(0), advance(0, 5), shutHand(0), update(ch(1, 9, 1)), fronts, done(0, 1), done(9, 1), wait(9, 1), shut, advance(0, never)} {
		k := made(t, room(two(), 1, 3, 1))
		k.do(0, advance(0, 1), fine)
		for _, who := range []int{0, 2} {
			a, first := k.begin(who, o), len(k.x.Log())-1
			begin := k.x.Mem().Time()
			for !a.Over() {
				had := k.x.Log()[first:]
				if who == 0 && (had[0].Begin != begin || had[0].End != 0 || had[0].Op.Kind != o.Kind || had[0].Op.Who != who) {
					t.Fatalf("%v, that isn't over: %v", o, had[0])
				}
				a.Step()
				k.goesOn(had, k.x.Log()[first:], who)
				k.right()
			}
			for _, x := range k.x.Log()[first:] {
				if x.End == 0 || x.Mark == 0 {
					t.Errorf("of %v, that is over: %v", o, x)
				}
			}
		}
	}
}

// goesOn holds the Entries of an act behind a Step against those ahead of it.
func (k *kit) goesOn(had, l []hist.Entry, who int) {
	k.t.Helper()
	time := k.x.Mem().Time()
	for i, x := range l {
		then := hist.Entry{Who: who, Begin: time, Op: x.Op}
		if i < len(had) {
			then = had[i]
		}
		if x.Mark != then.Mark && (then.Mark != 0 || x.Mark != time) || x.End != then.End && (then.End != 0 || x.End != time) {
			k.t.Fatalf("at %d: %v, it was %v", time, x, then)
		}
		if x.Who != who || x.Begin != then.Begin || !sameOp(x.Op, then.Op) || x.End == 0 && !model.Same(x.Answer, fine) {
			k.t.Fatalf("at %d: %v, it was %v", time, x, then)
		}
		if x.End == 0 && i < len(l)-1 && (i > 0 || who == k.p.Threads) {
			k.t.Fatalf("at %d something began behind what isn't over: %v", time, l)
		}
	}
}

// event is the access with which an Entry took effect.
func (k *kit) event(x hist.Entry) mem.Event { return k.x.Mem().Log()[x.Mark-1] }

// last is the last Entry of a Kind.
func (k *kit) last(kind int) hist.Entry {
	k.t.Helper()
	l := k.x.Log()
	for i := len(l) - 1; i >= 0; i-- {
		if l[i].Op.Kind == kind {
			return l[i]
		}
	}
	k.t.Fatalf("there is no Entry of Kind %d", kind)
	return hist.Entry{}
}

// P16.1: with which accesses things take effect, and which latches their threads have then.
func TestMarks(t *testing.T) {
	k := made(t, two())
	k.do(0, shut, fine)
	bell, word := k.has(0, k.last(model.Shut).Mark), k.event(k.last(model.Shut))
	if len(bell) != 1 || word.Kind != mem.Store || word.Who != 0 {
		t.Fatalf("Shut: %v, with %v", word, bell)
	}
	look := mem.Event{Kind: mem.Load, At: word.At, Ok: true}
	for _, closed := range []bool{true, false} {
		k := made(t, two())
		k.do(0, open(0), num(2))
		if closed {
			k.do(1, shut, fine)
		}
		var table []int
		for _, o := range []op{open(0), open(9), shutHand(2), shutHand(2)} {
			k.end(k.begin(0, o))
			x := k.last(o.Kind)
			with := k.has(0, x.Mark)
			if k.event(x) != look || len(with) != 1 || with[0] == bell[0] || table != nil && !slices.Equal(with, table) {
				t.Errorf("%v: %v, with %v, not %v", o, k.event(x), with, bell)
			}
			table = with
		}
		for _, o := range []op{advance(0, 1), advance(9, 1), update(ch(0, 4, 1)), update(ch(0, 4, -9)), done(2, 0), wait(2, 0)} {
			k.end(k.begin(0, o))
			if x := k.last(o.Kind); k.event(x) != look || len(k.has(0, x.Mark)) != 0 || x.Mark != x.Begin+1 {
				t.Errorf("%v: %v, with %v", o, k.event(x), k.has(0, x.Mark))
			}
		}
		for _, o := range []op{fronts, done(0, 0)} {
			k.end(k.begin(0, o))
			if x := k.last(o.Kind); k.event(x).Kind != mem.Load || k.event(x).Who != 0 || k.event(x).At == word.At || len(k.has(0, x.Mark)) != 0 {
				t.Errorf("%v: %v", o, k.event(x))
			}
		}
		k.end(k.begin(2, op{}))
		k.sweeps(append(table, bell...))
		k.waits(closed, bell, look)
		k.free()
	}
}

// sweeps holds the Marks of the last Sweep's Drain, Pop and Show, and that the latches that it has then are none of those.
func (k *kit) sweeps(others []int) {
	k.t.Helper()
	l := k.has(2, k.last(model.Drain).Mark)
	with := k.has(2, k.last(model.Show).Mark)
	if len(l) != k.p.Shards || len(with) != 1 || len(k.has(2, k.last(model.Pop).Mark)) != 0 {
		k.t.Errorf("a Drain has %v, a Show %v", l, with)
	}
	l = append(append(l, with...), others...)
	slices.Sort(l)
	if len(slices.Compact(l)) != k.p.Shards+1+len(others) {
		k.t.Errorf("a latch is of two things: %v", l)
	}
	for _, kind := range []int{model.Drain, model.Pop, model.Show} {
		if e := k.event(k.last(kind)); e.Who != 2 {
			k.t.Errorf("Kind %d: %v", kind, e)
		}
	}
}

// waits holds the Mark of a Wait: with the bell's latch it looks whether it is shut, or it reads what is shown.
func (k *kit) waits(closed bool, bell []int, look mem.Event) {
	k.t.Helper()
	for time := range uint64(2) {
		if !closed {
			k.end(k.begin(0, shutHand(3)))
			k.do(0, advance(0, time+8), fine)
			k.end(k.begin(2, op{}))
		}
		k.end(k.begin(0, wait(0, 0)))
		x := k.last(model.Wait)
		if (k.event(x) == look) != closed || k.event(x).Kind != mem.Load || !slices.Equal(k.has(0, x.Mark), bell) {
			k.t.Errorf("a Wait: %v, with %v, not %v", k.event(x), k.has(0, x.Mark), bell)
		}
	}
}

// P16.1: the Put of an Open and a Close is behind the latch of the Table.
func TestPutsWithoutLatch(t *testing.T) {
	for _, ring := range []int{1, 64} {
		k := made(t, room(one(), ring, 3, 1))
		for i, o := range []op{open(0), open(0), shutHand(0), open(1), shutHand(1)} {
			k.end(k.begin(0, o))
			l := k.x.Log()
			for _, x := range l[slices.IndexFunc(l, func(x hist.Entry) bool { return x.Mark == k.last(o.Kind).Mark })+1:] {
				if len(k.has(0, x.Begin)) != 0 {
					t.Errorf("%d, %v: a Put begins with %v", i, o, k.has(0, x.Begin))
				}
			}
		}
		k.right()
	}
}

// P16.1: what is told while it is published is read with a latch, but as many tries as the plan has go ahead.
func TestTries(t *testing.T) {
	for tries := 1; tries <= 8; tries++ {
		latched := 0
		for ahead := range 40 {
			k := made(t, room(two(), 1, 1, tries))
			s := k.begin(2, op{})
			for range ahead {
				s.Step()
			}
			time, a := k.x.Mem().Time(), k.begin(0, fronts)
			for range 64 {
				a.Step()
			}
			l := k.x.Mem().Log()[time:]
			take := slices.IndexFunc(l, func(e mem.Event) bool { return e.Kind == mem.Take })
			if take >= 0 && (take < tries || take > 4*tries) {
				t.Errorf("of %d tries, %d Steps ahead: the latch is taken behind %d accesses", tries, ahead, take)
			}
			if take >= 0 {
				latched++
			}
			k.together([]*track.Act{s, a})
			k.right()
		}
		if latched == 0 {
			t.Error("there was nothing in vain")
		}
	}
}

// P16.1: while its who sleeps an act makes no access, wherever it is; woken it goes on.
func TestSleeper(t *testing.T) {
	for _, o := range []op{open(0), advance(0, 4), update(ch(1, 9, 1)), shutHand(0), fronts, done(0, 1), done(9, 0), wait(9, 0), shut} {
		for _, who := range []int{0, 2} {
			k := made(t, two())
			for a := k.begin(who, o); !a.Over(); {
				k.restsAt(a, who)
				a.Step()
			}
			k.right()
		}
	}
}

// restsAt lets who sleep by a latch that nobody has, and wakes him again.
func (k *kit) restsAt(a *track.Act, who int) {
	k.t.Helper()
	m, latch := k.x.Mem(), 0
	for m.Holder(latch) != -1 {
		latch++
	}
	m.Take(who, latch)
	m.Sleep(who, latch)
	time := m.Time()
	for range 2 {
		if a.Step() || !a.Asleep() || m.Time() != time {
			k.t.Fatal("who sleeps goes on")
		}
	}
	m.Take(1, latch)
	if m.Wake(1, latch) != 1 || a.Asleep() {
		k.t.Fatal("it can't be woken")
	}
	m.Free(1, latch)
}

// thing is something that a thread may do, of few handles, ports and times, so that often it may and often it mayn't.
func thing(d *dice, p model.Plan, own claim.Own) op {
	hand := d.roll(4)
	if len(own.Hands) > 0 && d.roll(8) > 0 {
		hand = pick(d, own.Hands).Id
	}
	port, time := d.roll(p.Graph.Ports+1)-d.roll(2)*d.roll(2), uint64(d.roll(16))
	if h, found := claim.Find(own, hand); found && d.roll(2) == 0 {
		time = h.Time + uint64(d.roll(4))
	}
	var l []change
	for range d.roll(4) {
		l = append(l, ch(d.roll(p.Graph.Ports), time+uint64(d.roll(3)), int64(d.roll(5)-2)))
	}
	switch d.roll(12) {
	case 0, 1:
		return open(hand)
	case 2:
		return shutHand(hand)
	case 3, 4, 5:
		return update(l...)
	case 6:
		return fronts
	case 7:
		return done(port, time)
	}
	return advance(hand, time)
}

// puts is what a Model does for a thread that put something off, by the rule of the document.
func puts(m *model.Model, who int, inPool *bool) []said {
	if m.Waiting(who) == 0 {
		return nil
	}
	var l []said
	ring, pool := op{Kind: model.Put, Who: who}, op{Kind: model.Put, Who: who, Way: 1}
	if !*inPool {
		a := m.Do(ring)
		l = append(l, said{who, ring, a})
		if a.N == 1 {
			return l
		}
	}
	*inPool = true
	return append(l, said{who, pool, m.Do(pool)})
}

// P16.1: things done one behind the other, by many threads, held against a Model: what is answered, held, and put.
func TestOneBehindTheOther(t *testing.T) {
	d := dice(1)
	for range 150 {
		p := room(plan(1+d.roll(4), 3, edges{{From: 0, To: 1, Add: 2}, {From: 1, To: 2, Add: 0}, {From: 2, To: 0, Add: 1}}, 2, 0), 1<<d.roll(3), 1+d.roll(3), 1+d.roll(3))
		k := made(t, p)
		m, _ := model.New(p)
		inPool := make([]bool, p.Threads)
		for range 60 {
			if d.roll(6) == 0 {
				k.sweptAs(m)
				clear(inPool)
				continue
			}
			who := d.roll(p.Threads)
			o := thing(&d, p, k.x.Own(who))
			o.Who = who
			had := m.Waiting(who)
			want := m.Do(o)
			k.do(who, o, want)
			l := []said{{who, o, want}}
			if m.Waiting(who) > had {
				l = append(l, puts(m, who, &inPool[who])...)
			}
			k.tells(l...)
			k.hasAs(m)
		}
		k.right()
		k.safe()
		k.apart()
		k.free()
	}
}

// hasAs holds what threads have against a Model.
func (k *kit) hasAs(m *model.Model) {
	k.t.Helper()
	for who := range k.p.Threads {
		if !sameOwn(k.x.Own(who), m.Own(who)) {
			k.t.Fatalf("%d has %v, want %v", who, k.x.Own(who), m.Own(who))
		}
	}
}

// sweptAs goes round once, with a Model that does likewise.
func (k *kit) sweptAs(m *model.Model) {
	k.t.Helper()
	var l []said
	does := func(o op) answer {
		a := m.Do(o)
		l = append(l, said{k.p.Threads, o, a})
		return a
	}
	folded := m.Folded()
	does(op{Kind: model.Drain})
	for who := range k.p.Threads {
		for many := 0; many < k.p.Ring && does(op{Kind: model.Pop, Who: who}).N == 1; many++ {
		}
	}
	does(op{Kind: model.Show})
	want, _ := batch.Merge(m.Folded(), batch.Minus(folded))
	k.sweep(want...)
	k.tells(l...)
	if !batch.Same(m.Folded(), k.all()) {
		k.t.Fatalf("behind a Sweep something isn't folded: %v, %v", m.Folded(), k.all())
	}
}
