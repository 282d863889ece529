package tower_test

import (
	"math"
	"slices"
	"testing"

	"marchland/api"
	"marchland/batch"
	"marchland/fault"
	"marchland/graph"
	"marchland/hist"
	"marchland/mem"
	"marchland/model"
	"marchland/tower"
	"marchland/track"
)

// P17.1: the document's example.
func TestExample(t *testing.T) {
	k := made(t, one(), progs{{advance(0, 5), done(0, 4)}})
	k.w.Run(make([]int, 10))
	k.says(0, answer{}, num(0))
	k.rest()
	if m := k.safe(); !slices.Equal(m.Shown(), []uint64{5}) {
		t.Errorf("behind a Rest: %v", m.Shown())
	}
	k.atRest()
}

// P17.1, P1: of a plan that isn't right there is no Tower, whatever the programs.
func TestNewRefuses(t *testing.T) {
	wrong := []model.Plan{{}, plan(1, 0, nil, 0), plan(1, 65, nil, 0), plan(1, 1, nil), plan(1, 1, nil, 1), plan(0, 1, nil, 0), plan(9, 1, nil, 0), plan(-1, 1, nil, 0)}
	wrong = append(wrong, plan(1, 2, edges{{From: 0, To: 2}}, 0), plan(1, 2, edges{{From: 0, To: 1}, {From: 1, To: 0}}, 0), plan(math.MaxInt, 1, nil, 0))
	for _, l := range [][3]int{{0, 1, 1}, {3, 1, 1}, {128, 1, 1}, {1, 0, 1}, {1, 9, 1}, {1, 1, 0}, {1, 1, 9}, {math.MinInt, 1, 1}} {
		wrong = append(wrong, room(one(), l[0], l[1], l[2]))
	}
	for _, p := range wrong {
		for _, l := range []progs{nil, {{advance(0, 5)}}, make(progs, 12)} {
			w, e := tower.New(p, l)
			if want := fault.Text(model.Check(p)); w != nil || fault.Text(e) != want || want == "ok" {
				t.Errorf("New of %v: %v, want %s", p, e, want)
			}
		}
	}
}

// P17.1: of a plan that is right there is one, in which nothing was done yet.
func TestNew(t *testing.T) {
	for _, p := range []model.Plan{one(), two(), wide(), plan(8, 1, nil, 0), plan(3, 4, nil, 3, 1, 0, 2), room(two(), 4, 3, 2)} {
		x, _ := track.New(p)
		k := made(t, p, progs{{advance(0, 5)}})
		if k.w.Track() == nil || k.w.Track() != k.w.Track() || len(k.w.Track().Log()) != 0 || k.time() != x.Mem().Time() {
			t.Errorf("of %v: %v", p, k.w.Track().Log())
		}
		for who := range p.Threads {
			if !slices.Equal(k.w.Track().Own(who).Hands, x.Own(who).Hands) || k.w.Waits(who) {
				t.Errorf("of %v: %d has %v", p, who, k.w.Track().Own(who))
			}
		}
		k.idles(false)
		k.rest()
		k.atRest()
	}
}

// P17.1: lists beyond the threads are left, those that lack are empty, and Cmds of no Kind are passed by.
func TestPrograms(t *testing.T) {
	var mixed []cmd
	for _, kind := range []int{-1, 5, math.MinInt, 8, 4, 9, 10, 11, 12, math.MaxInt, 7, -9} {
		mixed = append(mixed, cmd{Kind: kind})
	}
	for _, c := range []struct {
		l    progs
		want []int
	}{
		{nil, []int{0, 0, 0}},
		{progs{}, []int{0, 0, 0}},
		{progs{{}, nil, {}}, []int{0, 0, 0}},
		{progs{{fronts}}, []int{1, 0, 0}},
		{progs{nil, {fronts, shut}}, []int{0, 2, 0}},
		{progs{{fronts}, {open(0), open(0)}, {fronts, fronts, fronts}}, []int{1, 2, 3}},
		{progs{{fronts}, {fronts}, {fronts}, {fronts}, {fronts, fronts}}, []int{1, 1, 1}},
		{progs{mixed, {fronts}, {{Kind: 8}}, mixed}, []int{3, 1, 0}},
	} {
		k := made(t, plan(3, 1, nil, 0), c.l)
		many := 0
		for who, n := range c.want {
			many += n
			if got := k.w.Left(who); got != n {
				t.Errorf("%v: %d has %d left, want %d", c.l, who, got, n)
			}
		}
		k.rest()
		k.atRest()
		for who, n := range c.want {
			if len(k.did(who)) != n {
				t.Errorf("%v: %d did %v, want %d", c.l, who, k.did(who), n)
			}
		}
	}
}

// P17.1: what is passed by takes no pick, wherever it stands.
func TestPassedBy(t *testing.T) {
	k := made(t, one(), progs{{{Kind: 8}, done(0, 4), {Kind: -1}, {Kind: 99}, done(0, 5), {Kind: 12}}})
	for left := 1; left >= 0; left-- {
		k.picks(0, 1)
		if k.w.Left(0) != left {
			t.Fatalf("left %d, want %d", k.w.Left(0), left)
		}
		k.ends(0)
	}
	k.still(0)
	l := k.did(0)
	if len(l) != 2 || l[0].Op.Time != 4 || l[1].Op.Time != 5 {
		t.Errorf("it did %v", l)
	}
	for _, p := range []progs{{{{Kind: 8}}}, {{{Kind: -1}, {Kind: 8}}}} {
		k := made(t, one(), p)
		k.still(0)
		k.sweeps()
		k.idles(true)
	}
}

// has is a Tower of one port, whose thread has as many handles as it says, and has done so much then; its Ids are 0, and
// 2 on.
func has(t *testing.T, many int, then ...cmd) *kit {
	t.Helper()
	var l []cmd
	switch many {
	case 0:
		l = append(l, shutHand(0))
	case 1:
	default:
		// The Id 1 is the other thread's, whose handle is at the other port.
		for range many - 1 {
			l = append(l, open(0))
		}
	}
	k := made(t, room(plan(2, 2, nil, 0, 1), 64, 1, 1), progs{append(l, then...)})
	for range l {
		k.ends(0)
	}
	return k
}

// P17.1: whose handle it is that a Cmd means.
func TestHands(t *testing.T) {
	for _, c := range []struct{ many, hand, want int }{
		{1, 0, 0},
		{1, 1, 0},
		{1, 7, 0},
		{1, math.MaxInt, 0},
		{1, -1, -1},
		{1, math.MinInt, -1},
		{3, 0, 0},
		{3, 1, 2},
		{3, 2, 3},
		{3, 3, 0},
		{3, 4, 2},
		{3, 5, 3},
		{3, 64, 2},
		{3, math.MaxInt, 2},
		{3, -1, -1},
		{3, -3, -1},
		{3, math.MinInt, -1},
		{0, 0, -1},
		{0, 1, -1},
		{0, math.MaxInt, -1},
		{0, -1, -1},
		{0, math.MinInt, -1},
	} {
		for kind := model.Open; kind <= model.Shut; kind++ {
			k := has(t, c.many, cmd{Kind: kind, Hand: c.hand, Port: 9, Time: 3})
			k.picks(0, 1)
			l := k.did(0)
			if x := l[len(l)-1]; x.Op.Kind != kind || x.Op.Hand != c.want {
				t.Errorf("of %d, Kind %d of place %d: %v, want %d", c.many, kind, c.hand, x.Op, c.want)
			}
			k.rest()
			k.right()
		}
	}
}

// P17.1: the handles are those that the thread has when it begins, rising by Id, and no other thread's.
func TestHandsOfThen(t *testing.T) {
	k := made(t, room(two(), 64, 1, 1), progs{
		{open(0), open(1), shutHand(1), open(7), shutHand(1), shutHand(0), shutHand(0), advance(0, 1)},
		{advance(3, 2), open(0), shutHand(1), shutHand(0), shutHand(0)},
	})
	for range 8 {
		k.ends(0)
	}
	// 0; 0 2; 0 2 3; 0 3; of place 7 mod 2 it is 3, of which 66 comes; 0 66; 66; none.
	k.says(0, num(2), num(3), answer{}, num(66), answer{}, answer{}, answer{}, no(api.ErrStale))
	k.hands(0, 0, 2, 2, 3, 3, 0, 66, -1)
	for range 5 {
		k.ends(1)
	}
	k.says(1, answer{}, num(64), answer{}, answer{}, no(api.ErrStale))
	k.hands(1, 1, 1, 64, 1, -1)
	k.rest()
	k.atRest()
}

// hands holds which handles a thread meant, one thing behind the other.
func (k *kit) hands(who int, want ...int) {
	k.t.Helper()
	var got []int
	for _, x := range k.did(who) {
		got = append(got, x.Op.Hand)
	}
	if !slices.Equal(got, want) {
		k.t.Errorf("%d meant %v, want %v", who, got, want)
	}
}

// P17.1: a Cmd's Port, Time and L are the Op's, of which all else is 0, but the thread.
func TestOps(t *testing.T) {
	l := []change{ch(1, 9, 2), ch(0, 4, 1), ch(1, 9, -1)}
	for kind := model.Open; kind <= model.Shut; kind++ {
		k := made(t, two(), progs{nil, {{Kind: kind, Hand: 5, Port: 1, Time: 77, L: l}}})
		k.picks(1, 1)
		x := k.w.Track().Log()[0]
		if o := x.Op; x.Who != 1 || o.Who != 1 || o.Kind != kind || o.Hand != 1 || o.Port != 1 || o.Time != 77 || o.Way != 0 || !slices.Equal(o.L, l) {
			t.Errorf("Kind %d: %v", kind, x)
		}
	}
}

// P17.1: what threads are answered is what a Model says, Kind by Kind.
func TestAnswers(t *testing.T) {
	k := made(t, two(), progs{{
		advance(0, 5), open(0), update(ch(1, 8, 1), ch(0, 6, 2)), update(ch(1, 7, 1)), shutHand(1), advance(0, 4), advance(-1, 9),
		fronts, done(0, 4), done(2, 0), done(-1, 0), wait(2, 0), shut, open(0), advance(0, 9), shutHand(0), update(), wait(0, 4), fronts,
	}})
	for range 19 {
		k.ends(0)
		k.sweeps()
	}
	k.says(0, answer{}, num(2), answer{}, no(api.ErrUnjustified), answer{}, no(api.ErrBack), no(api.ErrStale),
		times(5, 0), num(1), no(api.ErrPort), no(api.ErrPort), no(api.ErrPort), answer{}, no(api.ErrClosed), no(api.ErrClosed), no(api.ErrClosed), no(api.ErrClosed), no(api.ErrClosed), times(5, 0))
	k.still(0)
	k.atRest()
}

// P17.1: who is picked is layer 10's, of the threads and the drainer.
func TestWhoIsPicked(t *testing.T) {
	for _, c := range []struct{ threads, k, want int }{
		{1, 0, 0},
		{1, 1, 1},
		{1, 2, 0},
		{1, 7, 1},
		{1, -1, 1},
		{1, -2, 0},
		{1, math.MaxInt, 1},
		{1, math.MinInt, 0},
		{2, 2, 2},
		{2, 3, 0},
		{2, 7, 1},
		{2, -1, 0},
		{2, -2, 2},
		{2, math.MinInt, 2},
		{2, math.MaxInt, 1},
		{3, 3, 3},
		{3, 4, 0},
		{3, -1, 3},
		{8, 8, 8},
		{8, 9, 0},
		{8, 255, 3},
		{8, -1, 6},
		{8, math.MinInt, 8},
	} {
		k := made(t, plan(c.threads, 1, nil, 0), slices.Repeat(progs{{fronts}}, 9))
		time := k.time()
		if !k.w.Pick(c.k) {
			t.Fatalf("of %d, Pick(%d): nothing", c.threads, c.k)
		}
		l, left := k.w.Track().Mem().Log()[time:], 0
		for who := range c.threads {
			left += k.w.Left(who)
		}
		if len(l) != 1 || l[0].Who != c.want || left != c.threads && c.want == c.threads || left != c.threads-1 && c.want < c.threads {
			t.Errorf("of %d, Pick(%d): %v, want %d", c.threads, c.k, l, c.want)
		}
	}
}

// P17.1: with a pick a thread makes one access; one that does nothing begins with it, and that one which is over just
// then begins nothing yet.
func TestPick(t *testing.T) {
	k := made(t, room(two(), 4, 1, 1), progs{{advance(0, 5), done(0, 4), open(0)}})
	for _, c := range []struct{ left, picks int }{
		// A look whether it is shut, and a Push; three looks at what is shown.
		{2, 5},
		{1, 3},
	} {
		entries := len(k.w.Track().Log())
		for i := range c.picks {
			k.picks(0, 1)
			if k.w.Left(0) != c.left {
				t.Fatalf("behind %d picks %d are left, want %d", i+1, k.w.Left(0), c.left)
			}
			over := k.w.Track().Log()[entries].End != 0
			if over != (i == c.picks-1) {
				t.Fatalf("behind %d picks: over %v", i+1, over)
			}
		}
	}
	if len(k.did(0)) != 2 {
		t.Errorf("something was begun: %v", k.did(0))
	}
	k.still(1)
	k.ends(0)
	k.still(0)
	k.still(1)
	k.rest()
	k.atRest()
}

// P17.1: one that sleeps isn't stepped; the step with which it falls asleep is one.
func TestSleeper(t *testing.T) {
	k := made(t, two(), progs{{advance(0, 5)}, {wait(0, 4), fronts}})
	k.sleeps(1)
	if e := k.w.Track().Mem().Log()[k.time()-1]; e.Kind != mem.Sleep || e.Who != 1 {
		t.Fatalf("it sleeps by %v", e)
	}
	for range 3 {
		k.still(1)
	}
	if !k.w.Waits(1) || k.w.Waits(0) || k.w.Left(1) != 1 {
		t.Error("nobody sleeps")
	}
	k.ends(0)
	k.still(1)
	k.sweeps()
	if k.w.Waits(1) {
		t.Error("nobody woke it")
	}
	k.idles(false)
	k.ends(1)
	k.ends(1)
	k.says(1, num(1), times(5, 0))
	k.still(1)
	k.atRest()
}

// P17.1: who is awake again, and sleeps on.
func TestSleepsOn(t *testing.T) {
	k := made(t, two(), progs{{advance(0, 3), advance(0, 4), advance(0, 5)}, {wait(0, 4)}})
	k.sweeps()
	for range 3 {
		k.sleeps(1)
		k.idles(false)
		k.ends(0)
		k.still(1)
		k.sweeps()
		if k.w.Waits(1) {
			t.Fatal("a Sweep wakes nobody")
		}
	}
	k.idles(false)
	k.ends(1)
	k.says(1, num(1))
	k.atRest()
}

// P17.1: at first a Sweep has something to do; behind it nothing.
func TestFirstSweep(t *testing.T) {
	for _, p := range []model.Plan{one(), two(), wide()} {
		k := made(t, p, nil)
		if many := k.sweeps(); many != 1 {
			t.Errorf("it went round %d times", many)
		}
		k.idles(true)
		k.atRest()
	}
}

// P17.1: what a thread does lets a Sweep go round, or doesn't; also where it is refused.
func TestStale(t *testing.T) {
	for _, c := range []struct {
		c    cmd
		want int
	}{
		{open(0), 1},
		{open(-1), 1},
		{advance(0, 5), 1},
		{advance(0, 0), 1},
		{advance(-1, 5), 1},
		{advance(0, never), 1},
		{shutHand(0), 1},
		{shutHand(-1), 1},
		{update(ch(0, 4, 1)), 1},
		{update(), 1},
		{update(ch(0, 4, -1)), 1},
		{fronts, 0},
		{done(0, 0), 0},
		{done(9, 0), 0},
		{wait(9, 0), 0},
		{shut, 0},
		{wait(0, 9), 0},
	} {
		k := made(t, two(), progs{{c.c}})
		k.sweeps()
		k.idles(false)
		if c.c.Kind == model.Wait && c.c.Port == 0 {
			k.sleeps(0)
		} else {
			k.ends(0)
		}
		k.idles(c.want == 0)
		if many := k.sweeps(); many != c.want {
			t.Errorf("behind %v a Sweep goes round %d times, want %d", c.c, many, c.want)
		}
		k.idles(true)
		k.atRest()
	}
}

// P17.1: when it is shut what is refused lets a Sweep go round all the same.
func TestStaleWhenShut(t *testing.T) {
	for _, c := range []cmd{open(0), advance(0, 5), shutHand(0), update(ch(0, 4, 1))} {
		k := made(t, two(), progs{{shut, c}})
		k.sweeps()
		k.ends(0)
		if many := k.sweeps(); many != 0 {
			t.Errorf("behind a Shut a Sweep goes round %d times", many)
		}
		k.ends(0)
		k.says(0, answer{}, no(api.ErrClosed))
		if many := k.sweeps(); many != 1 {
			t.Errorf("behind %v a Sweep goes round %d times", c, many)
		}
		k.atRest()
	}
}

// P17.1: each Step of an act that changes what a thread holds, from the first to the last one, lets a Sweep go round
// again: whether none is under way, or one is.
func TestStaleAtEachStep(t *testing.T) {
	for _, c := range []cmd{open(0), advance(0, 5), shutHand(0), update(ch(0, 4, 1)), advance(-1, 5)} {
		k := made(t, two(), progs{{c, fronts}})
		k.sweeps()
		for steps := 0; k.w.Left(0) == 2 || k.did(0)[0].End == 0; steps++ {
			k.picks(0, 1)
			k.idles(false)
			if many := k.sweeps(); many != 1 {
				t.Fatalf("behind step %d of %v a Sweep goes round %d times", steps, c, many)
			}
		}
		k.idles(false)
		k.ends(0)
		if many := k.sweeps(); many != 0 {
			t.Errorf("behind a look a Sweep goes round %d times", many)
		}
		k.atRest()
	}
}

// P17.1: a Step while a Sweep is under way lets the next one begin behind it; another Step does no more than that.
func TestStaleInTheMidst(t *testing.T) {
	for _, c := range []struct {
		c    cmd
		want int
	}{{advance(0, 5), 2}, {fronts, 1}} {
		for ahead := range 12 {
			for steps := 1; steps <= 3; steps++ {
				k := made(t, two(), progs{{c.c}})
				k.picks(2, ahead+1)
				k.picks(0, steps)
				if many := k.sweeps(); many != c.want {
					t.Errorf("%d Steps ahead, and %d of %v: a Sweep goes round %d times, want %d", ahead, steps, c.c, many, c.want)
				}
				k.rest()
				k.atRest()
			}
		}
	}
}

// P17.1: it isn't Idle while a Sweep is under way, though nobody has anything else to do.
func TestIdleInASweep(t *testing.T) {
	k := made(t, two(), progs{{advance(0, 5)}, {wait(1, 4), fronts}})
	k.idles(false)
	k.ends(0)
	for k.w.Pick(2) {
		k.idles(false)
	}
	k.idles(false)
	k.sleeps(1)
	k.idles(true)
	if k.w.Left(1) != 1 {
		t.Error("nothing is left of who sleeps")
	}
	k.atRest()
	k = made(t, two(), nil)
	var idle []bool
	for k.w.Pick(2) {
		idle = append(idle, k.w.Idle())
	}
	if slices.Index(idle, true) != len(idle)-1 {
		t.Errorf("behind each Step of a Sweep it is Idle: %v", idle)
	}
}

// P17.1: it isn't Idle while a thread is in the midst of something, whatever it is, though no Cmd is left and all is
// folded that the thread has put so far.
func TestIdleInTheMidst(t *testing.T) {
	for _, c := range []cmd{open(0), advance(0, 5), shutHand(0), update(ch(0, 4, 1)), fronts, done(0, 1), done(9, 0), wait(9, 0), wait(0, 1), shut} {
		k := made(t, two(), progs{{c}})
		k.sweeps()
		for through := false; !through; through = k.w.Waits(0) || k.did(0)[0].End != 0 {
			k.idles(false)
			k.picks(0, 1)
			k.sweeps()
			if k.w.Left(0) != 0 {
				t.Fatalf("%v isn't begun", c)
			}
		}
		k.idles(true)
		k.atRest()
	}
}

// P17.1: Run picks, one behind the other.
func TestRun(t *testing.T) {
	l := progs{{advance(0, 5), open(0), update(ch(0, 7, 1))}, {wait(1, 4), advance(0, 9)}}
	d := dice(3)
	for range 50 {
		var picks []int
		for range d.roll(200) {
			picks = append(picks, d.roll(1000)-500)
		}
		had := slices.Clone(picks)
		a, b := made(t, two(), l), made(t, two(), l)
		a.w.Run(picks)
		if !slices.Equal(picks, had) {
			t.Error("picks were changed")
		}
		for _, k := range picks {
			b.w.Pick(k)
		}
		a.same(b)
	}
	k := made(t, two(), l)
	k.w.Run(nil)
	k.w.Run([]int{})
	k.same(made(t, two(), l))
}

// same holds that of two Towers all is the same.
func (k *kit) same(other *kit) {
	k.t.Helper()
	if !slices.Equal(k.w.Track().Mem().Log(), other.w.Track().Mem().Log()) || !slices.EqualFunc(k.w.Track().Log(), other.w.Track().Log(), sameEntry) {
		k.t.Fatalf("two Towers did something else: %v, %v", k.w.Track().Log(), other.w.Track().Log())
	}
	for who := range k.p.Threads {
		if k.w.Left(who) != other.w.Left(who) || k.w.Waits(who) != other.w.Waits(who) {
			k.t.Fatalf("of two Towers %d is at another place", who)
		}
	}
	if k.w.Idle() != other.w.Idle() {
		k.t.Fatal("one of two Towers is Idle")
	}
}

func sameEntry(a, b hist.Entry) bool {
	o, x := a.Op, b.Op
	same := o.Kind == x.Kind && o.Who == x.Who && o.Hand == x.Hand && o.Port == x.Port && o.Time == x.Time && o.Way == x.Way && slices.Equal(o.L, x.L)
	return same && a.Who == b.Who && a.Begin == b.Begin && a.Mark == b.Mark && a.End == b.End && model.Same(a.Answer, b.Answer)
}

// P17.1: Rest goes in turn, from the first thread to the drainer, and looks ahead of each round and behind the last one.
func TestRest(t *testing.T) {
	l := progs{{advance(0, 5), open(0), done(0, 4)}, {wait(0, 4), wait(1, 100)}}
	rounds := made(t, two(), l).rest()
	for n := range rounds + 3 {
		a, b := made(t, two(), l), made(t, two(), l)
		want := -1
		if n >= rounds {
			want = rounds
		}
		if got := a.w.Rest(n); got != want {
			t.Fatalf("Rest of %d: %d, want %d", n, got, want)
		}
		for range min(n, rounds) {
			for who := range 3 {
				b.w.Pick(who)
			}
		}
		a.same(b)
		if got := a.w.Rest(rounds); got != max(0, rounds-n) {
			t.Fatalf("Rest behind %d rounds: %d", n, got)
		}
		a.atRest()
	}
	for _, n := range []int{math.MaxInt, math.MaxInt - 1, 1 << 40} {
		if got := made(t, two(), l).w.Rest(n); got != rounds {
			t.Errorf("Rest of %d: %d, want %d", n, got, rounds)
		}
	}
}

// P17.1: Rest of no rounds, and of fewer, goes on by nothing.
func TestRestOfNone(t *testing.T) {
	for _, n := range []int{0, -1, -7, math.MinInt} {
		k := made(t, two(), progs{{fronts}})
		time := k.time()
		if got := k.w.Rest(n); got != -1 || k.time() != time || len(k.w.Track().Log()) != 0 {
			t.Errorf("Rest of %d: %d", n, got)
		}
		k.rest()
		time = k.time()
		if got := k.w.Rest(n); got != 0 || k.time() != time {
			t.Errorf("Rest of %d, of what is Idle: %d", n, got)
		}
	}
}

// P17.1: one round is each once.
func TestRound(t *testing.T) {
	k := made(t, plan(3, 1, nil, 0), progs{{fronts}, {fronts}, {fronts}})
	time := k.time()
	for round := range 3 {
		if k.w.Rest(1) != -1 {
			t.Fatal("it is Idle")
		}
		l := k.w.Track().Mem().Log()[time:]
		if len(l) != 4*(round+1) {
			t.Fatalf("behind %d rounds: %v", round+1, l)
		}
		for i, e := range l {
			if e.Who != i%4 {
				t.Fatalf("access %d is %d's", i, e.Who)
			}
		}
	}
}

// P17.1, P1: of whom there isn't; of the drainer nothing is left, and it waits for nothing.
func TestNobody(t *testing.T) {
	k := made(t, two(), progs{{wait(0, 4), fronts}, {wait(0, 4), fronts}, {fronts}, {fronts}})
	k.rest()
	for who := range 2 {
		if k.w.Left(who) != 1 || !k.w.Waits(who) {
			t.Errorf("%d: %d left", who, k.w.Left(who))
		}
	}
	for _, who := range []int{-1, 2, 3, 4, math.MinInt, math.MaxInt} {
		if k.w.Left(who) != 0 || k.w.Waits(who) {
			t.Errorf("%d: %d left", who, k.w.Left(who))
		}
	}
}

// P17.1, P1: of a nil Tower, and one that New didn't make.
func TestNothing(t *testing.T) {
	var none *tower.Tower
	for _, w := range []*tower.Tower{none, {}} {
		w.Run([]int{0, 1, -1})
		w.Run(nil)
		for _, n := range []int{0, 1, -1, math.MaxInt, math.MinInt} {
			if w.Pick(n) || w.Rest(n) != -1 || w.Left(n) != 0 || w.Waits(n) {
				t.Error("of nothing there is something")
			}
		}
		if w.Track() != nil || w.Idle() {
			t.Error("of nothing there is something")
		}
	}
}

// spoil overwrites a list, its spare room too.
func spoil[T any](l []T, by T) {
	l = l[:cap(l)]
	for i := range l {
		l[i] = by
	}
}

// P17.1: what is handed in isn't kept or changed (rule 4).
func TestNothingIsKept(t *testing.T) {
	p := two()
	p.Graph.Edges = append(make(edges, 0, 4), p.Graph.Edges...)
	p.Graph.Inputs = append(make([]int, 0, 4), p.Graph.Inputs...)
	changes := append(make([]change, 0, 4), ch(1, 9, 1), ch(0, 4, 2))
	prog := append(make([]cmd, 0, 6), cmd{Kind: model.Update, L: changes}, cmd{Kind: 8, L: changes}, advance(0, 5), cmd{Kind: model.Update, L: changes[1:]})
	l := append(make(progs, 0, 3), prog)
	k := made(t, p, l)
	k.p = two()
	if !slices.Equal(changes[:4], []change{ch(1, 9, 1), ch(0, 4, 2), {}, {}}) || len(prog) != 4 || prog[1].Kind != 8 || prog[2].Kind != model.Advance || prog[:6][4].Kind != 0 || l[:3][1] != nil || len(l[0]) != 4 {
		t.Errorf("something was changed: %v", l)
	}
	k.w.Pick(0)
	spoil(changes, ch(7, 7, 7))
	spoil(prog, cmd{Kind: model.Shut, Hand: 9})
	spoil(l, []cmd{shut, shut, shut, shut, shut})
	spoil(p.Graph.Edges, graph.Edge{From: 1, To: 0, Add: 9})
	spoil(p.Graph.Inputs, 1)
	k.rest()
	k.says(0, answer{}, answer{}, answer{})
	for i, want := range [][]change{{ch(1, 9, 1), ch(0, 4, 2)}, nil, {ch(0, 4, 2)}} {
		if got := k.did(0)[i].Op.L; !slices.Equal(got, want) {
			t.Errorf("what was handed in is kept: %v", got)
		}
	}
	if len(k.did(1)) != 0 {
		t.Errorf("what was handed in is kept: %v", k.did(1))
	}
	k.atRest()
}

// P17.1: two Towers of one list share nothing.
func TestTwoOfOne(t *testing.T) {
	l := progs{{advance(0, 5), update(ch(1, 9, 1))}, {advance(0, 7)}}
	a, b := made(t, two(), l), made(t, two(), l)
	a.rest()
	if b.w.Left(0) != 2 || b.w.Left(1) != 1 || len(b.w.Track().Log()) != 0 {
		t.Error("what one does another one did")
	}
	b.rest()
	a.same(b)
}

// P4, P17.3: when it is shut nobody sleeps.
func TestShutWakes(t *testing.T) {
	k := made(t, plan(4, 1, nil, 0), progs{{shut}, {wait(0, 4), fronts}, {wait(0, 9)}, {wait(0, 1), wait(0, 2)}})
	k.sweeps()
	for who := 1; who < 4; who++ {
		k.sleeps(who)
	}
	k.idles(false)
	k.rest()
	k.says(1, no(api.ErrClosed), times(0))
	k.says(2, no(api.ErrClosed))
	k.says(3, no(api.ErrClosed), no(api.ErrClosed))
	if asleep := k.atRest(); asleep != 0 {
		t.Errorf("%d sleep", asleep)
	}
}

// P1: whatever somebody outside does with the Track, a pick does nothing for a thread that is in the midst of that, and
// a Cmd isn't lost by it.
func TestOutside(t *testing.T) {
	k := made(t, two(), progs{{fronts, done(0, 1)}})
	k.sweeps()
	a := k.w.Track().Do(0, model.Op{Kind: model.Shut})
	for range 3 {
		k.still(0)
	}
	if k.w.Left(0) != 2 || k.w.Waits(0) {
		t.Error("something was begun")
	}
	for !a.Step() {
	}
	k.rest()
	k.says(0, answer{}, times(0, 0), num(0))
	k = made(t, two(), progs{{advance(0, 1)}})
	s := k.w.Track().Sweep()
	k.still(2)
	for !s.Step() {
	}
	if many := k.sweeps(); many != 1 {
		t.Errorf("the first Sweep goes round %d times", many)
	}
	k.rest()
	k.atRest()
}

// P17.1: who sleeps by something else, and is in the midst of nothing, doesn't wait; what it has left keeps it from being
// Idle, till it is in the midst of that.
func TestSleepsOutside(t *testing.T) {
	k := made(t, two(), progs{{fronts, fronts}, {fronts}})
	k.rest()
	k.sleepsOutside(0)
	k.idles(true)
	if k.w.Waits(0) {
		t.Error("it waits, and is through")
	}
	k = made(t, two(), progs{{fronts, fronts}, {fronts}})
	k.sweeps()
	k.ends(0)
	k.sleepsOutside(0)
	k.ends(1)
	k.idles(false)
	if k.w.Waits(0) || k.w.Left(0) != 1 {
		t.Error("it waits, and has begun nothing")
	}
	time := k.time()
	if k.w.Pick(0) || k.time() != time || !k.w.Waits(0) || k.w.Left(0) != 0 {
		t.Error("it doesn't wait, and sleeps in the midst of something")
	}
	k.idles(true)
}

// sleepsOutside lets one sleep by what somebody outside does in its name.
func (k *kit) sleepsOutside(who int) {
	k.t.Helper()
	m := k.w.Track().Mem()
	if !m.Take(who, 0) || !m.Sleep(who, 0) {
		k.t.Fatalf("%d can't sleep", who)
	}
}

// P17.3: Rest goes on for as long as the Cmds take, however many there are.
func TestLongProgram(t *testing.T) {
	k := made(t, one(), progs{slices.Repeat([]cmd{fronts}, 30000)})
	if n := k.w.Rest(math.MaxInt); n < 5*track.Bound(k.p) || len(k.did(0)) != 30000 {
		t.Errorf("Rest: %d", n)
	}
	k.idles(true)
	k.right()
}

// P1: Rest ends, though somebody outside has a latch that others need, sleeps in another's name, or began something that
// he doesn't go on with.
func TestRestEnds(t *testing.T) {
	for latch := 0; ; latch++ {
		k := made(t, one(), progs{{open(0), wait(0, 4)}})
		if !k.w.Track().Mem().Take(77, latch) {
			break
		}
		if n := k.w.Rest(math.MaxInt); n != -1 {
			t.Errorf("with latch %d: Rest %d", latch, n)
		}
	}
	k := made(t, one(), nil)
	k.sleepsOutside(1)
	for range 2 {
		if k.w.Pick(1) || k.w.Rest(math.MaxInt) != -1 {
			t.Error("a drainer that sleeps goes on")
		}
	}
	k = made(t, one(), progs{{fronts}})
	k.w.Track().Do(0, model.Op{Kind: model.Fronts})
	if n := k.w.Rest(math.MaxInt); n != -1 || k.w.Left(0) != 1 {
		t.Errorf("in the midst of another thing: Rest %d", n)
	}
	k = made(t, one(), nil)
	k.w.Track().Sweep()
	if n := k.w.Rest(math.MaxInt); n != -1 {
		t.Errorf("in the midst of another Sweep: Rest %d", n)
	}
}

// P1, P17.2: whatever Cmds there are, and whatever is picked, all ends and nothing panics.
func TestAnything(t *testing.T) {
	d := dice(9)
	numbers := []int{0, 1, 2, 3, 5, 63, 64, 65, -1, -64, math.MaxInt, math.MinInt}
	stamps := []uint64{0, 1, 2, 1 << 63, never - 1, never}
	diffs := []int64{0, 1, -1, api.MaxHold, -api.MaxHold, api.MaxCount, math.MaxInt64, math.MinInt64}
	for range 150 {
		p := anyPlan(&d)
		l := make(progs, d.roll(p.Threads+2))
		for who := range l {
			for range d.roll(25) {
				c := cmd{Kind: d.roll(10) - 1, Hand: pick(&d, numbers), Port: pick(&d, numbers), Time: pick(&d, stamps)}
				if c.Kind == model.Shut && d.roll(8) > 0 {
					c.Kind = pick(&d, numbers)
				}
				for range d.roll(18) {
					c.L = append(c.L, ch(pick(&d, numbers), pick(&d, stamps), pick(&d, diffs)))
				}
				if d.roll(3) > 0 {
					c.L = batch.Batch{ch(d.roll(3), pick(&d, stamps), pick(&d, diffs))}
				}
				l[who] = append(l[who], c)
			}
		}
		k := made(t, p, l)
		for range d.roll(600) {
			k.w.Pick(int(d)>>d.roll(64) - d.roll(3))
			d.roll(2)
		}
		k.right()
		k.rest()
		k.atRest()
	}
}
