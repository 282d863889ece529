package tower_test

import (
	"slices"
	"strconv"
	"testing"

	"marchland/graph"
	"marchland/hist"
	"marchland/model"
	"marchland/track"
)

// plain is a Tower as the document tells of it: it remembers at which of its picks a thread made a Step that may let
// something be stale, and at which a Sweep began.
type plain struct {
	x       *track.Track
	progs   progs
	at      []int
	acts    []*track.Act
	kinds   []int
	picks   int
	changed int
	began   int
}

func plainOf(p model.Plan, l progs) *plain {
	x, _ := track.New(p)
	s := &plain{x: x, at: make([]int, p.Threads), acts: make([]*track.Act, p.Threads+1), kinds: make([]int, p.Threads+1), began: -1}
	for who := range p.Threads {
		s.progs = append(s.progs, nil)
		if who < len(l) {
			s.progs[who] = slices.DeleteFunc(slices.Clone(l[who]), func(c cmd) bool { return c.Kind < 0 || c.Kind > 7 })
		}
	}
	return s
}

// stale: the Step at first, or one of a thread's, is behind the last Sweep's begin.
func (s *plain) stale() bool { return s.changed > s.began }

func (s *plain) pick(k int) bool {
	s.picks++
	who := int(uint64(k) % uint64(len(s.acts)))
	if s.acts[who] == nil || s.acts[who].Over() {
		s.begins(who)
	}
	a := s.acts[who]
	if a == nil || a.Over() || a.Asleep() {
		return false
	}
	a.Step()
	switch s.kinds[who] {
	case model.Open, model.Advance, model.Close, model.Update:
		s.changed = s.picks
	}
	return true
}

func (s *plain) begins(who int) {
	if who == len(s.at) {
		s.kinds[who] = -1
		if s.stale() {
			s.acts[who], s.began = s.x.Sweep(), s.picks
		}
		return
	}
	if s.at[who] == len(s.progs[who]) {
		return
	}
	c := s.progs[who][s.at[who]]
	o := op{Kind: c.Kind, Hand: -1, Port: c.Port, Time: c.Time, L: c.L}
	var ids []int
	for _, h := range s.x.Own(who).Hands {
		ids = append(ids, h.Id)
	}
	slices.Sort(ids)
	if c.Hand >= 0 && len(ids) > 0 {
		o.Hand = ids[c.Hand%len(ids)]
	}
	s.acts[who], s.kinds[who] = s.x.Do(who, o), c.Kind
	s.at[who]++
}

func (s *plain) waits(who int) bool {
	a := s.acts[who]
	return a != nil && !a.Over() && s.x.Mem().Asleep(who)
}

func (s *plain) idle() bool {
	for who, l := range s.progs {
		through := s.at[who] == len(l) && (s.acts[who] == nil || s.acts[who].Over())
		if !through && !s.waits(who) {
			return false
		}
	}
	sweep := s.acts[len(s.at)]
	return !s.stale() && (sweep == nil || sweep.Over())
}

// as holds a Tower against a plain one.
func (k *kit) as(s *plain) {
	k.t.Helper()
	for who := range k.p.Threads {
		if k.w.Left(who) != len(s.progs[who])-s.at[who] || k.w.Waits(who) != s.waits(who) {
			k.t.Fatalf("%d: %d left, waits %v: %v", who, k.w.Left(who), k.w.Waits(who), k.w.Track().Log())
		}
	}
	if k.w.Idle() != s.idle() {
		k.t.Fatalf("Idle: %v: %v", k.w.Idle(), k.w.Track().Log())
	}
}

// anyPlan is one of few ports, with an input for each of some threads.
func anyPlan(d *dice) model.Plan {
	ports := 1 + d.roll(4)
	var e edges
	for range d.roll(6) {
		x := graph.Edge{From: d.roll(ports), To: d.roll(ports), Add: uint64(d.roll(3))}
		if x.To <= x.From {
			x.Add++
		}
		e = append(e, x)
	}
	inputs := []int{0, 1, 2, 3}[:1+d.roll(ports)]
	return room(plan(1+d.roll(4), ports, e, inputs...), 1<<d.roll(3), 1+d.roll(3), 1+d.roll(2))
}

// thing is something that a thread may do, of few handles, ports and times, so that often it may and often it mayn't;
// times go on with how far its program is.
func thing(d *dice, p model.Plan, far int) cmd {
	port, time := d.roll(p.Graph.Ports+1)-d.roll(2)*d.roll(2), uint64(far/2+d.roll(8))
	var l []change
	for range d.roll(4) {
		l = append(l, ch(d.roll(p.Graph.Ports), time+uint64(d.roll(3)), int64(d.roll(5)-2)))
	}
	hand := d.roll(9) - d.roll(2)
	switch d.roll(16) {
	case 0, 1:
		return open(hand)
	case 2:
		return shutHand(hand)
	case 3, 4, 5, 6:
		return update(l...)
	case 7:
		return fronts
	case 8:
		return done(port, time)
	case 9, 10:
		return wait(port, uint64(d.roll(far/2+4)))
	case 11:
		if d.roll(20) == 0 {
			return shut
		}
		return cmd{Kind: 8 + d.roll(5)}
	}
	return advance(hand, time)
}

// anyProgs is a program for each thread, but now and then.
func anyProgs(d *dice, p model.Plan, most int) progs {
	l := make(progs, p.Threads)
	for who := range l {
		for far := range d.roll(most + 1) {
			l[who] = append(l[who], thing(d, p, far))
		}
	}
	return l[:len(l)-d.roll(2)*d.roll(2)]
}

// P17.1: a Tower, held against a plain one at each pick.
func TestAsAPlainOne(t *testing.T) {
	t.Parallel()
	d := dice(1)
	for range 300 {
		p := anyPlan(&d)
		l := anyProgs(&d, p, 12)
		k, s := made(t, p, l), plainOf(p, l)
		k.as(s)
		for range 60 {
			who := d.roll(100) - 50
			for range 1 + d.roll(3)*d.roll(12) {
				if got, want := k.w.Pick(who), s.pick(who); got != want {
					t.Fatalf("Pick(%d): %v", who, got)
				}
				k.as(s)
			}
		}
		if !slices.Equal(k.w.Track().Mem().Log(), s.x.Mem().Log()) || !slices.EqualFunc(k.w.Track().Log(), s.x.Log(), sameEntry) {
			t.Fatalf("it did %v, want %v", k.w.Track().Log(), s.x.Log())
		}
		rounds := 0
		for ; !s.idle(); rounds++ {
			for who := range p.Threads + 1 {
				s.pick(who)
			}
		}
		if got := k.rest(); got != rounds {
			t.Fatalf("Rest: %d, want %d", got, rounds)
		}
		k.as(s)
		k.atRest()
	}
}

// cases are plans and programs in which little is done, but all that may meet.
func cases() []struct {
	p model.Plan
	l progs
} {
	onAndOn := []cmd{advance(0, 5), advance(0, 6), advance(0, 7)}
	return []struct {
		p model.Plan
		l progs
	}{
		{one(), progs{onAndOn}},
		{room(one(), 2, 2, 1), progs{{advance(0, 5), open(0), done(0, 4), shutHand(1), wait(0, 4)}}},
		{two(), progs{{advance(0, 5)}, {wait(0, 4), wait(0, 5), advance(0, 1)}}},
		{two(), progs{onAndOn, {wait(0, 6), wait(1, 1)}}},
		{two(), progs{{wait(1, 2), advance(0, 4)}, {advance(0, 4), wait(0, 3)}}},
		{two(), progs{{open(0), shutHand(0)}, {shutHand(0), open(0), open(1)}}},
		{two(), progs{{open(0), shut, open(0)}, {wait(0, 4), open(0)}}},
		{room(two(), 1, 2, 1), progs{{update(ch(0, 1, 1), ch(1, 4, 1)), shutHand(0)}, {fronts, done(0, 0), wait(0, 0)}}},
		{plan(3, 1, nil, 0), progs{{advance(0, 5), shut}, {wait(0, 4)}, {wait(0, 9), fronts}}},
	}
}

// P17.2, P17.3: of small cases every row of picks in which so many go on, each for as long as it says.
func TestEveryTurn(t *testing.T) {
	long := []int{1, 3, 6, 9, 40}
	for i, c := range cases() {
		t.Run(strconv.Itoa(i), func(t *testing.T) {
			t.Parallel()
			rows := 1
			for range 3 {
				rows *= (c.p.Threads + 1) * len(long)
			}
			for row := range rows {
				k := made(t, c.p, c.l)
				for left := row; left > 0; left /= (c.p.Threads + 1) * len(long) {
					who := left % (c.p.Threads + 1)
					k.w.Run(slices.Repeat([]int{who}, long[left/(c.p.Threads+1)%len(long)]))
				}
				k.right()
				k.rest()
				k.atRest()
			}
		})
	}
}

// P17.2, P17.3: of small cases every row of so many picks.
func TestEveryRow(t *testing.T) {
	for i, c := range cases() {
		t.Run(strconv.Itoa(i), func(t *testing.T) {
			t.Parallel()
			rows := 1
			for range 22 / (c.p.Threads + 1) {
				rows *= c.p.Threads + 1
			}
			for row := range rows {
				k := made(t, c.p, c.l)
				// Those that differ stand in the midst of what is done.
				k.w.Run(slices.Repeat([]int{0, 1}, row%9))
				for left := row; left > 0; left /= c.p.Threads + 1 {
					k.w.Pick(left % (c.p.Threads + 1))
				}
				k.rest()
				k.atRest()
			}
		})
	}
}

// P17.2, P17.3: many things of many threads, in many turns: what is said is so at each moment, and all comes to rest.
func TestManyInManyTurns(t *testing.T) {
	t.Parallel()
	d, slept := dice(7), 0
	for range 500 {
		p := anyPlan(&d)
		k := made(t, p, anyProgs(&d, p, 40))
		held, gone, over := k.fronts(), map[int]uint64{}, map[int]bool{}
		for range d.roll(120) {
			k.w.Run(slices.Repeat([]int{d.roll(p.Threads + 1)}, 1+d.roll(3)*d.roll(20)))
			held = k.holds(held, gone, over)
		}
		k.right()
		k.rest()
		k.holds(held, gone, over)
		slept += k.atRest()
	}
	if slept < 50 {
		t.Errorf("at rest %d slept", slept)
	}
}

// holds: of what all threads hold now no front goes back, and none is at a time that has gone by (P16.3, P3). It tells
// the fronts; gone has what was said to have gone by, over which Entries' word stands there.
func (k *kit) holds(held []uint64, gone map[int]uint64, over map[int]bool) []uint64 {
	k.t.Helper()
	for i, x := range k.w.Track().Log() {
		if x.End == 0 || over[i] {
			continue
		}
		over[i] = true
		if x.Answer.N == 1 && (x.Op.Kind == model.Done || x.Op.Kind == model.Wait) {
			gone[x.Op.Port] = max(gone[x.Op.Port], x.Op.Time)
		}
	}
	now := k.fronts()
	for port, time := range now {
		if said, any := gone[port]; time < held[port] || any && time <= said {
			k.t.Fatalf("at %d %d may come, it was %d, and gone by has %d", port, time, held[port], said)
		}
	}
	return now
}

// P17.3: in plans of as little and of as much as there may be, with programs that hinder each other: within as many
// rounds as the document says, whoever was picked ahead.
func TestWithinBound(t *testing.T) {
	t.Parallel()
	d := dice(5)
	for _, p := range []model.Plan{wide(), room(wide(), 1, 1, 1), room(wide(), 4, 3, 8), plan(8, 8, nil, 7, 6, 5, 4, 3, 2, 1, 0), plan(8, 1, nil, 0)} {
		for turn := range 6 {
			k := made(t, p, hinder(&d, p, turn))
			for range 4 * turn {
				k.w.Run(slices.Repeat([]int{d.roll(9)}, 1+d.roll(80)))
			}
			k.rest()
			k.atRest()
		}
	}
}

// hinder is programs in which all need one latch, and rings and shards are full; in some turns they sleep over times that
// don't come, in the others over the first one, that each thread leaves at first.
func hinder(d *dice, p model.Plan, turn int) progs {
	l := make(progs, p.Threads)
	for who := range l {
		l[who] = append(l[who], advance(0, 1))
		for far := range 12 {
			c := advance(far, uint64(far+1))
			switch (turn + who + far*d.roll(2)) % 6 {
			case 0:
				c = open(far)
			case 1:
				c = shutHand(1)
			case 2:
				c = wait(d.roll(p.Graph.Ports), uint64(far*(turn%2)))
			case 3:
				c = update(ch(p.Graph.Ports-1, uint64(100+far), 1))
			case 4:
				c = fronts
			}
			l[who] = append(l[who], c)
		}
	}
	return l
}

// P17.3: a Rest that was broken off goes on, by whatever parts.
func TestRestInParts(t *testing.T) {
	d := dice(13)
	for range 60 {
		p := anyPlan(&d)
		l := anyProgs(&d, p, 10)
		a, b := made(t, p, l), made(t, p, l)
		rounds := a.rest()
		for left := rounds; left > 0; {
			n := 1 + d.roll(left)
			want := -1
			if n == left {
				want = n
			}
			if got := b.w.Rest(n); got != want {
				t.Fatalf("Rest of %d, %d left: %d", n, left, got)
			}
			left -= n
		}
		a.same(b)
	}
}

// P5: how small rings are, and how many shards and tries there are, changes nothing that a thread is answered to what it
// changes: here but one of them opens and closes handles.
func TestRoomTellsNothing(t *testing.T) {
	d := dice(17)
	for range 60 {
		p := plan(2, 3, edges{{From: 0, To: 1, Add: 1}, {From: 1, To: 2, Add: 2}}, 0, 1)
		l := make(progs, 2)
		for far := range 40 {
			who := d.roll(2)
			c := thing(&d, p, far)
			if c.Kind > model.Update && c.Port >= 0 && c.Port < 3 || (c.Kind == model.Open || c.Kind == model.Close) && who > 0 {
				continue
			}
			l[who] = append(l[who], c)
		}
		var want [2][]answer
		for i, r := range [][3]int{{64, 1, 1}, {1, 1, 1}, {2, 8, 8}, {1, 3, 2}, {8, 2, 4}} {
			k := made(t, room(p, r[0], r[1], r[2]), l)
			for range d.roll(200) {
				k.w.Pick(d.roll(3))
			}
			k.rest()
			for who := range 2 {
				var got []answer
				for _, x := range k.did(who) {
					got = append(got, x.Answer)
				}
				if i == 0 {
					want[who] = got
				}
				if !slices.EqualFunc(got, want[who], model.Same) {
					t.Fatalf("of %v %d: %v, want %v", r, who, got, want[who])
				}
			}
		}
	}
}

// P17.2: the Log is Right at each pick, also in the midst of everything.
func TestLogAtEachPick(t *testing.T) {
	t.Parallel()
	d := dice(19)
	for range 40 {
		p := anyPlan(&d)
		k := made(t, p, anyProgs(&d, p, 8))
		for range 150 {
			k.w.Pick(d.roll(p.Threads + 1))
			if l := k.w.Track().Log(); !hist.Right(p.Threads, l) || hist.Check(p, l) != -1 {
				t.Fatalf("in another order: %v", l)
			}
		}
		k.rest()
		k.atRest()
	}
}

// P17.1: what is answered hangs on what was done alone (rule 5).
func TestOnceMore(t *testing.T) {
	run := func(d dice) *kit {
		p := anyPlan(&d)
		k := made(t, p, anyProgs(&d, p, 20))
		for range 200 {
			k.w.Pick(d.roll(p.Threads + 1))
		}
		return k
	}
	for seed := range dice(20) {
		run(seed).same(run(seed))
	}
}
