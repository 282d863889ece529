package track_test

import (
	"math"
	"slices"
	"testing"

	"marchland/api"
	"marchland/batch"
	"marchland/claim"
	"marchland/fault"
	"marchland/graph"
	"marchland/hist"
	"marchland/model"
	"marchland/track"
)

// together steps acts in turn till all are over or sleep: within as many rounds as there are acts, times Bound.
func (k *kit) together(acts []*track.Act) {
	k.t.Helper()
	for rounds := 0; ; rounds++ {
		any := false
		for _, a := range acts {
			if !a.Over() && !a.Asleep() {
				a.Step()
				any = true
			}
		}
		if !any {
			return
		}
		if rounds == len(acts)*k.bound {
			k.t.Fatalf("in %d rounds not all are over: %v", rounds, k.x.Log())
		}
	}
}

// P16.4: all that threads may do, beside each other and a Sweep, in plans of as little and of as much as there may be:
// with rings that are full, and batches in the pool.
func TestTogether(t *testing.T) {
	for _, p := range []model.Plan{wide(), room(wide(), 1, 1, 1), room(wide(), 4, 3, 8), plan(8, 8, nil, 7, 6, 5, 4, 3, 2, 1, 0)} {
		for turn := range 9 {
			k := made(t, p)
			for who := range p.Threads {
				for many := range p.Ring * (who % 3) {
					k.do(who, advance(who, uint64(many+1)), fine)
				}
			}
			things := []op{open(0), advance(1, 99), update(k.spread(2)...), shutHand(3), fronts, open(5), wait(0, 0), done(3, 7)}
			var acts []*track.Act
			for who, o := range things {
				acts = append(acts, k.begin(who, o))
			}
			acts = append(acts, k.begin(p.Threads, op{}))
			acts = append(acts[turn:], acts[:turn]...)
			k.together(acts)
			for _, a := range acts {
				if !a.Over() && !a.Asleep() {
					t.Fatal("it isn't over")
				}
			}
			k.right()
			k.apart()
			k.free()
			k.safe()
		}
	}
}

// spread is a change of each of many ports that what a thread has at first lets be.
func (k *kit) spread(who int) []change {
	var l []change
	for port, far := range graph.Paths(k.p.Graph)[k.x.Own(who).Hands[0].Port] {
		if far != never && len(l) < api.MaxList {
			l = append(l, ch(port, 1000, int64(port+1)))
		}
	}
	return l
}

// P16.4, P4: who waits and is woken again and again by Sweeps hinders nobody; when it is shut all is over.
func TestTogetherWithWaits(t *testing.T) {
	for turn := range 9 {
		k := made(t, room(plan(8, 2, nil, 0, 1), 1, 1, 1))
		var acts []*track.Act
		for who := 1; who < 8; who++ {
			acts = append(acts, k.begin(who, wait(who%2, uint64(who%3))))
		}
		for time := range uint64(4) {
			now := []*track.Act{k.begin(0, advance(0, time+1)), k.begin(8, op{})}
			all := append(slices.Clone(acts), now...)
			all = append(all[turn:], all[:turn]...)
			k.together(all)
			if !now[0].Over() || !now[1].Over() {
				t.Fatal("it isn't over")
			}
			k.right()
		}
		for who := 1; who < 8; who++ {
			if asleep := who%2 == 1; acts[who-1].Over() == asleep {
				t.Errorf("%d: over %v: %v", who, !asleep, k.x.Log())
			}
		}
		last := k.begin(0, shut)
		all := append(acts, last)
		k.together(all)
		for _, a := range all {
			if !a.Over() {
				t.Error("it is shut, and somebody isn't over")
			}
		}
		k.right()
		k.free()
		k.safe()
	}
}

// P5: how small rings are, how many shards and how many tries there are changes no answer.
func TestRoomTellsNothing(t *testing.T) {
	for seed := range 20 {
		var want []answer
		for _, l := range [][3]int{{64, 1, 1}, {1, 1, 1}, {2, 8, 8}, {1, 3, 2}, {8, 2, 4}} {
			d := dice(seed)
			k := made(t, room(plan(3, 3, edges{{From: 0, To: 1, Add: 1}, {From: 1, To: 2, Add: 2}}, 0, 1, 2), l[0], l[1], l[2]))
			var got []answer
			for range 100 {
				who := d.roll(4)
				var o op
				if who < 3 {
					o = thing(&d, k.p, k.x.Own(who))
				}
				got = append(got, k.end(k.begin(who, o)).Answer())
			}
			if want == nil {
				want = got
			}
			if !slices.EqualFunc(got, want, model.Same) {
				t.Fatalf("of %v: %v, want %v", l, got, want)
			}
		}
	}
}

// spoil overwrites a list, its spare room too.
func spoil[T any](l []T, by T) {
	l = l[:cap(l)]
	for i := range l {
		l[i] = by
	}
}

// P16.6, P1: what is handed in isn't kept or changed.
func TestNothingIsKept(t *testing.T) {
	p := two()
	p.Graph.Edges = append(make(edges, 0, 4), p.Graph.Edges...)
	p.Graph.Inputs = append(make([]int, 0, 4), p.Graph.Inputs...)
	k := made(t, p)
	k.p = two()
	spare := p.Graph.Edges[:4]
	if spare[1] != (graph.Edge{}) || p.Graph.Inputs[:4][2] != 0 || len(p.Graph.Edges) != 1 || p.Graph.Edges[0].Add != 3 || !slices.Equal(p.Graph.Inputs, []int{0, 1}) {
		t.Errorf("a plan was changed: %v", p)
	}
	spoil(p.Graph.Edges, graph.Edge{From: 1, To: 0, Add: 9})
	spoil(p.Graph.Inputs, 1)
	l := append(make([]change, 0, 8), ch(1, 9, 1), ch(0, 8, 2), ch(1, 9, 1))
	kept := slices.Clone(l[:8])
	o := update(l...)
	a := k.begin(0, o)
	if !slices.Equal(l[:8], kept) {
		t.Error("a list was changed")
	}
	spoil(l, ch(7, 7, 7))
	k.end(a)
	if !model.Same(a.Answer(), fine) || !slices.Equal(k.x.Log()[0].Op.L, kept[:3]) {
		t.Errorf("what was handed in is kept: %v, %v", a.Answer(), k.x.Log())
	}
	k.owns(0, []claim.Hand{hd(0, 0, 0)}, ch(0, 8, 2), ch(1, 9, 2))
	k.sweep(ch(0, 8, 2), ch(1, 9, 2))
	k.right()
}

// P16.6: what is answered is new memory.
func TestAnswersAreNew(t *testing.T) {
	k := made(t, room(two(), 1, 2, 1))
	k.do(0, update(ch(0, 8, 2), ch(1, 9, 2)), fine)
	k.do(0, advance(0, 4), fine)
	s := k.sweep(ch(0, 0, -1), ch(0, 4, 1), ch(0, 8, 2), ch(1, 9, 2))
	f := k.do(0, fronts, times(4, 0))
	log, own, folded := k.x.Log(), k.x.Own(0), slices.Clone(s.Folded())
	for range 2 {
		spoil(k.x.Own(0).Hands, hd(9, 9, 9))
		spoil(k.x.Own(0).Held, ch(9, 9, 9))
		spoil(f.Answer().Times, 99)
		spoil(s.Folded(), ch(9, 9, 9))
		for _, x := range k.x.Log() {
			spoil(x.Op.L, ch(9, 9, 9))
			spoil(x.Answer.Times, 99)
		}
		spoil(k.x.Log(), hist.Entry{Who: 9})
		if !slices.EqualFunc(k.x.Log(), log, sameEntry) || !sameOwn(k.x.Own(0), own) || !batch.Same(s.Folded(), folded) || !model.Same(f.Answer(), times(4, 0)) {
			t.Fatal("an answer shares something")
		}
		k.do(0, fronts, times(4, 0))
		log = k.x.Log()
		k.right()
	}
	k.do(0, advance(0, 5), fine)
	if !sameOwn(own, claim.Own{Hands: []claim.Hand{hd(0, 0, 4)}, Held: batch.Batch{ch(0, 8, 2), ch(1, 9, 2)}}) {
		t.Errorf("an answer changes: %v", own)
	}
}

// P1: whatever is asked for, it ends, and none panics.
func TestAnything(t *testing.T) {
	d := dice(3)
	numbers := []int{0, 1, 2, 3, 63, 64, 65, -1, -64, math.MaxInt, math.MinInt}
	stamps := []uint64{0, 1, 2, 1 << 63, never - 1, never}
	diffs := []int64{0, 1, -1, api.MaxHold, -api.MaxHold, api.MaxCount, math.MaxInt64, math.MinInt64}
	for range 60 {
		k := made(t, anyPlan(&d))
		for range 100 {
			o := op{Kind: d.roll(10) - 1, Who: pick(&d, numbers), Hand: pick(&d, numbers), Port: pick(&d, numbers), Time: pick(&d, stamps), Way: pick(&d, numbers)}
			for range d.roll(18) {
				o.L = append(o.L, ch(pick(&d, numbers), pick(&d, stamps), pick(&d, diffs)))
			}
			if d.roll(3) > 0 {
				o.L = []change{ch(d.roll(3), pick(&d, stamps), pick(&d, diffs))}
			}
			a := k.x.Do(d.roll(k.p.Threads+2)-1, o)
			if o.Kind == model.Shut && d.roll(4) > 0 {
				k.end(a)
				k = made(t, k.p)
				continue
			}
			for i := 0; !a.Step() && !a.Asleep(); i++ {
				if i == k.bound {
					t.Fatalf("%v isn't over", o)
				}
			}
			if a.Over() && fault.Kind(a.Fault()) != a.Answer().Err {
				t.Fatalf("%v: %v, %v", o, a.Fault(), a.Answer())
			}
			if d.roll(5) == 0 {
				k.end(k.begin(k.p.Threads, op{}))
			}
		}
		k.right()
		k.safe()
		k.apart()
	}
}

// P1: whoever meddles with the Mem, no Step panics, and each one ends.
func TestMeddling(t *testing.T) {
	d := dice(5)
	for range 100 {
		k := made(t, anyPlan(&d))
		m := k.x.Mem()
		acts := make([]*track.Act, k.p.Threads+1)
		for range 300 {
			who, at := d.roll(k.p.Threads+1), d.roll(90)
			switch d.roll(12) {
			case 0:
				m.Store(who, at, uint64(d)>>d.roll(64))
			case 1:
				m.Set(who, at%16, batch.Batch{ch(d.roll(80)-8, uint64(d.roll(9)), int64(d)), ch(d.roll(4), 3, -1)})
			case 2:
				m.Take(who, at%8)
			case 3:
				m.Free(who, at%8)
			case 4:
				m.Wake(who, at%8)
			case 5:
				if d.roll(9) == 0 {
					m.Sleep(who, at%8)
				}
			}
			switch {
			case !acts[who].Over():
				acts[who].Step()
			case who == k.p.Threads:
				acts[who] = k.x.Sweep()
			default:
				acts[who] = k.x.Do(who, thing(&d, k.p, k.x.Own(who)))
			}
			hist.Check(k.p, k.x.Log())
		}
	}
}
