package audit_test

import (
	"math"
	"slices"
	"testing"

	"marchland/api"
	"marchland/audit"
	"marchland/batch"
	"marchland/clock"
	"marchland/graph"
	"marchland/hist"
	"marchland/mem"
	"marchland/model"
	"marchland/script"
)

// race is two accesses that meet; fine two that don't.
func race() []mem.Event {
	return []mem.Event{{Kind: mem.Set, Ok: true}, {Who: 1, Kind: mem.Get, Ok: true}}
}

func fine() []mem.Event {
	return []mem.Event{{Kind: mem.Set, Ok: true}, {Kind: mem.Store}, {Who: 1, Kind: mem.Load}, {Who: 1, Kind: mem.Get, Ok: true}}
}

// lost is what makes a Done of 4 say so, though there is something at 3 yet: that waits in the ring, while what gives up the
// handle at 0 went by the pool.
func lost() []op {
	return []op{update(0, ch(0, 3, 1)), advance(0, 0, 6), put(0, 0), put(0, 1), drain, show}
}

// P19.1: the document's example.
func TestExample(t *testing.T) {
	l := did(t, one(), append(lost(), done(0, 0, 4))...)
	if a := l[6].Answer; a.N != 1 {
		t.Fatal(a)
	}
	checks(t, "at 3", one(), l, nil, "unsafe", false)
	opens(t, "at 3", one(), l, ch(0, 3, 1))
	l = did(t, one(), advance(0, 0, 5), put(0, 0), pop(0), show, done(0, 0, 4))
	checks(t, "at 5", one(), l, nil, "", true)
	opens(t, "at 5", one(), l)
}

// P19.1: nothing is as it should be, where there may be a Model.
func TestNothing(t *testing.T) {
	for threads := 1; threads <= 8; threads++ {
		for _, l := range [][]entry{nil, {}, {{Op: advance(0, 0, 5)}}} {
			checks(t, "nothing", plan(threads), l, nil, "", true)
			opens(t, "nothing", plan(threads), l)
		}
	}
}

// P19.1: whatever a Plan may not be.
func TestPlans(t *testing.T) {
	for i, wrong := range []func(p *model.Plan){
		func(p *model.Plan) { *p = model.Plan{} },
		func(p *model.Plan) { p.Graph.Ports = 0 },
		func(p *model.Plan) { p.Graph.Ports = 65 },
		func(p *model.Plan) { p.Graph.Inputs = nil },
		func(p *model.Plan) { p.Graph.Inputs = []int{5} },
		func(p *model.Plan) { p.Graph.Edges = []graph.Edge{{From: 1, To: 1}} },
		func(p *model.Plan) { p.Graph.Edges = []graph.Edge{{From: 0, To: 2}} },
		func(p *model.Plan) { p.Threads = 0 },
		func(p *model.Plan) { p.Threads = 9 },
		func(p *model.Plan) { p.Threads = math.MinInt },
		func(p *model.Plan) { p.Ring = 3 },
		func(p *model.Plan) { p.Shards = 9 },
		func(p *model.Plan) { p.Tries = 0 },
	} {
		p := plan(2)
		right := did(t, p, advance(0, 0, 5))
		wrong(&p)
		for _, l := range [][]entry{nil, right, {{Begin: -1}}} {
			if got := audit.Check(p, l, race()); got != "plan" || audit.Safe(p, l) {
				t.Errorf("%d: %q", i, got)
			}
			if b := audit.Open(p, l); b != nil {
				t.Errorf("%d: %v", i, b)
			}
		}
	}
}

// P19.1: lists that aren't Right, of the Plan's Threads.
func TestRight(t *testing.T) {
	good := did(t, plan(2), advance(0, 0, 5), put(0, 0), pop(0))
	opens(t, "all", plan(2), good, ch(0, 0, -1), ch(0, 5, 1))
	for i, bad := range []entry{
		{Who: 3, Op: op{Kind: model.Shut, Who: 3}},
		{Who: -1, Op: op{Kind: model.Shut, Who: -1}},
		{Op: op{Kind: model.Drain}},
		{Who: 1, Op: op{Kind: model.Shut}},
		{Who: 2, Op: op{Kind: model.Put}},
		{Op: op{Kind: 12}},
		{Begin: -1},
		{Begin: 9, Mark: 9},
		{End: 1},
		{Begin: 1, Mark: 9, End: 8},
		{Mark: 1, End: 1},
	} {
		for place := range len(good) + 1 {
			l := slices.Insert(slices.Clone(good), place, bad)
			checks(t, "bad", plan(2), l, race(), "right", false)
			if b := audit.Open(plan(2), l); b != nil {
				t.Errorf("%d: %v", i, b)
			}
		}
	}
	third := did(t, plan(3), op{Kind: model.Shut, Who: 2})
	checks(t, "of three", plan(3), third, nil, "", true)
	checks(t, "of two", plan(2), third, nil, "right", false)
	many := make([]entry, 65536)
	checks(t, "as many as may be", plan(1), many, nil, "", true)
	checks(t, "one more", plan(1), append(many, entry{}), nil, "right", false)
}

// P19.1: answers that no Model answers; Safe and Open don't hang on answers.
func TestOrder(t *testing.T) {
	good := did(t, plan(2), advance(0, 0, 5), put(0, 0), shutHand(1, 1), put(1, 1), drain, pop(0), show, done(0, 0, 4), done(1, 1, 8), wait(1, 0, 4), fronts)
	checks(t, "good", plan(2), good, nil, "", true)
	for i := range good {
		for _, a := range []answer{{N: 7}, {Err: api.ErrState}, times(7)} {
			l := slices.Clone(good)
			l[i].Answer = a
			checks(t, "another answer", plan(2), l, race(), "order", true)
			opens(t, "another answer", plan(2), l)
			l[i].End = 0
			checks(t, "no answer", plan(2), l, fine(), "", true)
		}
	}
	// Whoever was told so, it isn't what the Model says.
	l := did(t, one(), advance(0, 0, 5), done(0, 0, 9))
	l[1].Answer = num(1)
	checks(t, "it isn't so", one(), l, nil, "order", true)
	l = did(t, one(), append(lost(), done(0, 0, 4))...)
	l[6].Answer = num(0)
	checks(t, "it is said", one(), l, nil, "order", false)
	l[6].End = 0
	checks(t, "it isn't said yet", one(), l, nil, "unsafe", false)
}

// P19.1: of all words the first one that is so.
func TestFirst(t *testing.T) {
	bad := one()
	bad.Tries = 0
	good := did(t, one(), append(lost(), done(0, 0, 3))...)
	unsafe := deep(good)
	order := deep(good)
	order[0].Answer = num(1)
	right := deep(order)
	right[1].Mark = right[2].Mark
	safe := good[:6]
	for _, c := range []struct {
		p    model.Plan
		l    []entry
		a    []mem.Event
		want string
	}{
		{bad, right, race(), "plan"}, {bad, order, race(), "plan"}, {bad, unsafe, race(), "plan"}, {bad, safe, race(), "plan"}, {bad, safe, nil, "plan"}, {bad, nil, nil, "plan"},
		{one(), right, race(), "right"}, {one(), right, nil, "right"},
		{one(), order, race(), "order"}, {one(), order, nil, "order"},
		{one(), unsafe, race(), "unsafe"}, {one(), unsafe, fine(), "unsafe"}, {one(), unsafe, nil, "unsafe"},
		{one(), safe, race(), "race"}, {one(), nil, race(), "race"},
		{one(), safe, fine(), ""}, {one(), safe, nil, ""}, {one(), nil, nil, ""},
	} {
		if got := audit.Check(c.p, c.l, c.a); got != c.want {
			t.Errorf("%q, want %q", got, c.want)
		}
	}
}

// P19.1: of accesses it is a Race that counts, wherever it is.
func TestRaces(t *testing.T) {
	d := dice(1)
	found := 0
	for range 3000 {
		var l []mem.Event
		for range d.roll(12) {
			l = append(l, mem.Event{Who: d.roll(3), Kind: d.roll(9), At: d.roll(2), Ok: d.roll(3) > 0})
		}
		want := ""
		if i, j := clock.Race(l); i != -1 || j != -1 {
			want = "race"
			found++
		}
		if got := audit.Check(one(), nil, l); got != want {
			t.Fatalf("%q, want %q: %v", got, want, l)
		}
	}
	if found < 300 || found > 2700 {
		t.Errorf("they are too much alike: %d", found)
	}
}

// P19.1: a Wait that says so counts like a Done; nothing else, whatever N it is answered.
func TestWhatSaysSo(t *testing.T) {
	for _, c := range []struct {
		o    op
		safe bool
	}{
		{done(0, 0, 3), false}, {wait(0, 0, 3), false}, {done(0, 0, 5), false}, {wait(0, 0, 5), false}, {done(0, 0, 2), true}, {wait(0, 0, 2), true},
		{done(0, 0, 6), true}, {wait(0, 0, 6), true}, {done(0, 1, 3), true}, {wait(0, -1, 3), true}, {fronts, true}, {shut, true},
	} {
		l := did(t, one(), append(lost(), c.o)...)
		want := ""
		if !c.safe {
			want = "unsafe"
		}
		checks(t, "what says so", one(), l, nil, want, c.safe)
	}
	// When it is shut a Wait says nothing, a Done still does.
	checks(t, "shut", one(), did(t, one(), append(lost(), shut, wait(0, 0, 3))...), nil, "", true)
	checks(t, "shut", one(), did(t, one(), append(lost(), shut, done(0, 0, 3))...), nil, "unsafe", false)
	// An Open is answered the Id 1, by a thread that has the Ports and Times of a Done; likewise Puts, Drains, Pops.
	odd := open(0, 0)
	odd.Time = 9
	checks(t, "an Id", one(), did(t, one(), odd), nil, "", true)
	some := put(0, 0)
	some.Time = 9
	taken := pop(0)
	taken.Time = 9
	checks(t, "a Put", one(), did(t, one(), advance(0, 0, 5), some, taken), nil, "", true)
}

// P19.1: just above a time isn't so early any more.
func TestBorders(t *testing.T) {
	for _, at := range []uint64{0, 1, 5, 1 << 40, never - 2} {
		// The handle goes on to its last time by the pool; the stamp at that time is in the ring yet.
		l := []op{update(0, ch(0, at, 1)), shutHand(0, 0), put(0, 0), put(0, 1), drain, show}
		checks(t, "at it", one(), did(t, one(), append(l, done(0, 0, at))...), nil, "unsafe", false)
		checks(t, "far above", one(), did(t, one(), append(l, done(0, 0, never-1))...), nil, "unsafe", false)
		if at > 0 {
			checks(t, "below", one(), did(t, one(), append(l, done(0, 0, at-1))...), nil, "", true)
		}
		checks(t, "never", one(), did(t, one(), append(l, done(0, 0, never))...), nil, "", true)
	}
	// Nothing is held at all: whatever time goes by.
	checks(t, "nothing", one(), did(t, one(), shutHand(0, 0), put(0, 1), drain, show, done(0, 0, never-1)), nil, "", true)
}

// P19.1: the front counts, with what comes by ways, and that of the very port.
func TestPorts(t *testing.T) {
	l := []op{update(0, ch(0, 3, 1)), advance(0, 0, 20), shutHand(1, 1), put(0, 0), put(0, 1), put(1, 1), drain, show}
	for _, c := range []struct {
		o    op
		safe bool
	}{
		{done(1, 0, 2), true}, {done(1, 0, 3), false}, {done(1, 1, 5), true}, {done(1, 1, 6), false}, {done(1, 1, 22), false}, {done(1, 1, 23), true}, {wait(0, 1, 6), false},
	} {
		want := ""
		if !c.safe {
			want = "unsafe"
		}
		checks(t, "by ways", plan(2), did(t, plan(2), append(slices.Clone(l), c.o)...), nil, want, c.safe)
	}
	// Of no way back: what was said of port 0 isn't touched by what is held at port 1.
	back := []op{advance(0, 0, 20), put(0, 1), drain, show, done(0, 0, 19), update(1, ch(1, 2, 1)), advance(1, 1, 3)}
	checks(t, "no way back", plan(2), did(t, plan(2), back...), nil, "", true)
}

// P19.1: what took effect counts, whether it is over or not; what didn't doesn't.
func TestWhatTookEffect(t *testing.T) {
	l := did(t, one(), append(lost(), done(0, 0, 4))...)
	for i := range l {
		none := deep(l)
		none[i].Mark, none[i].End = 0, 0
		safe, open := plainly(one(), none)
		if audit.Safe(one(), none) != safe {
			t.Errorf("%d: safe %v", i, !safe)
		}
		opens(t, "not yet", one(), none, open...)
		notOver := deep(l)
		notOver[i].End, notOver[i].Answer = 0, answer{}
		checks(t, "not over", one(), notOver, nil, "unsafe", false)
		opens(t, "not over", one(), notOver, ch(0, 3, 1))
	}
	l[6].Mark, l[6].End = 0, 0
	checks(t, "it isn't said", one(), l, nil, "", true)
}

// P19.1: the order is that of the Marks, not of the places.
func TestMarks(t *testing.T) {
	l := did(t, one(), append(lost(), done(0, 0, 4))...)
	for i := range l {
		l[i].Mark = l[i].Mark * l[i].Mark * 1000
		l[i].End = math.MaxInt
	}
	d := dice(2)
	for range 50 {
		checks(t, "unsafe", one(), mixed(&d, l), nil, "unsafe", false)
		opens(t, "unsafe", one(), l, ch(0, 3, 1))
	}
	good := did(t, one(), update(0, ch(0, 3, 1)), advance(0, 0, 6), put(0, 0), put(0, 1), drain, pop(0), show, done(0, 0, 2), update(0, ch(0, 3, -1)), put(0, 0), pop(0), show, done(0, 0, 5))
	for range 50 {
		checks(t, "safe", one(), mixed(&d, good), nil, "", true)
		opens(t, "safe", one(), good)
	}
	// The Done ahead of the Show says nothing yet.
	early := did(t, one(), append(lost(), done(0, 0, 4))...)
	early[6].Begin, early[6].Mark = 0, 6
	early[5].Mark, early[5].End = 7, 7
	checks(t, "early", one(), early, nil, "order", true)
}

// P19.1: by how much what is folded isn't what is held, as it comes and goes.
func TestOpen(t *testing.T) {
	l := did(t, plan(2), advance(0, 0, 5), update(1, ch(1, 2, 7)), put(0, 0), put(1, 1), drain, show, pop(0), show, update(1, ch(1, 2, -3)), put(1, 0), pop(1), show)
	waits := []change{ch(0, 0, -1), ch(0, 5, 1)}
	for n, want := range [][]change{
		nil, waits, append(waits, ch(1, 2, 7)), append(waits, ch(1, 2, 7)), append(waits, ch(1, 2, 7)), append(waits, ch(1, 2, 7)),
		waits, waits, nil, {ch(1, 2, -3)}, {ch(1, 2, -3)}, {ch(1, 2, -3)}, nil,
	} {
		opens(t, "so many", plan(2), l[:n], want...)
	}
	// As much as a thread may hold, of two threads.
	most := update(0, ch(0, 5, api.MaxHold))
	other := most
	other.Who = 1
	p := plan(2)
	p.Graph.Edges[0] = graph.Edge{From: 1, To: 0}
	opens(t, "much", p, did(t, p, most, other), ch(0, 5, 2*api.MaxHold))
}

// P19.1: of as much as may be folded nothing is held any more: what takes it away waits in the rings, which are full.
func TestOpenOfAsMuchAsMayBe(t *testing.T) {
	p := plan(8)
	p.Graph = graph.Graph{Ports: 8, Inputs: []int{0, 1, 2, 3, 4, 5, 6, 7}}
	for from := 1; from < 8; from++ {
		p.Graph.Edges = append(p.Graph.Edges, graph.Edge{From: from})
	}
	p.Ring = 64
	var l []op
	for who := range 8 {
		for range 64 {
			l = append(l, update(who, ch(0, 5, api.MaxHold)), put(who, 1), update(who, ch(0, 5, -api.MaxHold)), put(who, 0))
		}
	}
	entries := did(t, p, append(l, drain, show)...)
	checks(t, "much", p, entries, nil, "", true)
	opens(t, "much", p, entries, ch(0, 5, -api.MaxCount))
}

// plans is a few.
func plans() []model.Plan {
	l := []model.Plan{one(), plan(1), plan(2), plan(3), plan(2)}
	l[1].Ring, l[4].Ring = 1, 1
	l[3].Graph = graph.Graph{Ports: 3, Edges: []graph.Edge{{From: 0, To: 1}, {From: 1, To: 2, Add: 1}, {From: 2, To: 0, Add: 2}}, Inputs: []int{2, 0}}
	return l
}

// anyOps is things that anybody does: what a thread did is put into its ring or into the pool, sooner or later. Mostly it is
// what gives something up that goes by the pool, and so ahead of what comes.
func anyOps(d *dice, p model.Plan, n int) []op {
	kinds := []int{model.Open, model.Close, model.Fronts, model.Wait, model.Drain, model.Drain, model.Pop, model.Show, model.Show, model.Done, model.Done}
	kinds = append(kinds, model.Advance, model.Advance, model.Advance, model.Update, model.Update, model.Update, model.Put, model.Put, model.Put, model.Put)
	ways := [4]int{model.Open: 0, model.Advance: 1, model.Close: 1, model.Update: 0}
	m, _ := model.New(p)
	off := make([][]int, p.Threads)
	var l []op
	for len(l) < n {
		who := d.roll(p.Threads)
		o := op{Kind: pick(d, kinds), Who: who, Port: d.roll(p.Graph.Ports), Time: uint64(d.roll(5) + len(l)/5), Way: d.roll(2)}
		if d.roll(200) == 0 {
			o.Kind = model.Shut
		}
		if hands := m.Own(who).Hands; len(hands) > 0 {
			o.Hand = pick(d, hands).Id
		}
		switch o.Kind {
		case model.Update:
			o.L = []change{ch(o.Port, o.Time, int64(d.roll(4)-1))}
		case model.Done, model.Wait:
			// What goes by just now, or just not.
			o.Time = m.Shown()[o.Port] + uint64(d.roll(3)) - 2
		case model.Put:
			if len(off[who]) > 0 && d.roll(4) > 0 {
				o.Way = off[who][0]
			}
		}
		waiting := m.Waiting(who)
		a := m.Do(o)
		switch {
		case o.Kind == model.Put && a.N == 1:
			off[who] = off[who][1:]
		case o.Kind <= model.Update && m.Waiting(who) > waiting:
			off[who] = append(off[who], ways[o.Kind])
		}
		l = append(l, o)
	}
	return l
}

// P19.1: whatever was done, held against what is told most plainly: with Marks, and answers, that may be others.
func TestAgainstPlain(t *testing.T) {
	words := map[string]int{}
	for seed := range 1500 {
		d := dice(seed)
		p := pick(&d, plans())
		l := did(t, p, anyOps(&d, p, 5+d.roll(250))...)
		if d.roll(3) == 0 {
			i, j := d.roll(len(l)), d.roll(len(l))
			l[i].Begin, l[j].Begin = 0, 0
			l[i].Mark, l[j].Mark = l[j].Mark, l[i].Mark
			l[i].End, l[j].End = l[i].Mark, l[j].Mark
		}
		if d.roll(6) == 0 {
			l[d.roll(len(l))].Answer.N++
		}
		l = mixed(&d, l)
		safe, open := plainly(p, l)
		if audit.Safe(p, l) != safe {
			t.Fatalf("seed %d: safe %v: %v", seed, !safe, l)
		}
		opens(t, "any", p, l, open...)
		want := ""
		switch {
		case hist.Check(p, l) != -1:
			want = "order"
		case !safe:
			want = "unsafe"
		}
		if got := audit.Check(p, l, fine()); got != want {
			t.Fatalf("seed %d: %q, want %q: %v", seed, got, want, l)
		}
		words[want]++
	}
	if words[""] < 50 || words["order"] < 50 || words["unsafe"] < 50 {
		t.Errorf("they are too much alike: %v", words)
	}
}

// P19.1, P2, P3, P6: all that any bytes say, played, is as it should be; once it came to rest all that is held is folded.
func TestWhatCameAbout(t *testing.T) {
	d := dice(3)
	said := 0
	for range 300 {
		b := make([]byte, 20+d.roll(400))
		for i := range b {
			b[i] = byte(d.roll(256))
		}
		s := script.Read(b)
		w := script.Play(s)
		x := w.Track()
		if word := audit.Check(s.Plan, x.Log(), x.Mem().Log()); word != "" || !audit.Safe(s.Plan, x.Log()) {
			t.Fatalf("%s: %v", word, b)
		}
		if w.Rest(1000000) < 0 {
			t.Fatalf("no rest: %v", b)
		}
		l := x.Log()
		if word := audit.Check(s.Plan, l, x.Mem().Log()); word != "" {
			t.Fatalf("%s: %v", word, b)
		}
		opens(t, "at rest", s.Plan, l)
		if slices.ContainsFunc(l, func(x entry) bool { return x.Op.Kind == model.Done && x.Answer.N == 1 }) {
			said++
		}
	}
	if said < 30 {
		t.Errorf("little is said: %d", said)
	}
}

// P19.2: what is handed in isn't changed, its spare room neither; what is answered is nobody else's.
func TestNothingIsKept(t *testing.T) {
	for seed := range 100 {
		d := dice(seed + 50)
		p := pick(&d, plans())
		l := mixed(&d, did(t, p, anyOps(&d, p, 40)...))
		n := len(l) - 2
		if d.roll(2) == 0 {
			l[n].Begin = -1
		}
		accesses := append(fine(), race()...)
		before, events, edges, inputs := deep(l), slices.Clone(accesses), slices.Clone(p.Graph.Edges), slices.Clone(p.Graph.Inputs)
		safe, open, word := audit.Safe(p, l[:n]), audit.Open(p, l[:n]), audit.Check(p, l[:n], accesses[:4])
		if !slices.EqualFunc(before, l, same) || !slices.Equal(events, accesses) || !slices.Equal(edges, p.Graph.Edges) || !slices.Equal(inputs, p.Graph.Inputs) {
			t.Fatalf("seed %d: %v is made %v", seed, before, l)
		}
		kept := slices.Clone(open)
		again := audit.Open(p, l[:n])
		again = again[:cap(again)]
		for i := range again {
			again[i] = ch(9, 9, 9)
		}
		if !slices.Equal(open, kept) || !batch.Same(audit.Open(p, l[:n]), kept) || audit.Safe(p, l[:n]) != safe || audit.Check(p, l[:n], accesses[:4]) != word || !slices.EqualFunc(before, l, same) {
			t.Fatalf("seed %d: it is another answer", seed)
		}
	}
}

func same(a, b entry) bool {
	x, y := a.Op, b.Op
	return a.Who == b.Who && a.Begin == b.Begin && a.Mark == b.Mark && a.End == b.End && x.Kind == y.Kind && x.Who == y.Who && x.Hand == y.Hand &&
		x.Port == y.Port && x.Time == y.Time && x.Way == y.Way && slices.Equal(x.L, y.L) && a.Answer.N == b.Answer.N && a.Answer.Err == b.Answer.Err && slices.Equal(a.Answer.Times, b.Answer.Times)
}

// P1: whatever there is in a list, calls end, and say what is told most plainly.
func TestAnything(t *testing.T) {
	numbers := []int{math.MinInt, -1, 0, 1, 2, 3, 4, 5, 8, 9, 11, 12, 65, math.MaxInt}
	for seed := range 4000 {
		d := dice(seed)
		n := func() int { return pick(&d, numbers) }
		var l []entry
		for i := range d.roll(6) {
			o := op{Kind: n(), Who: d.roll(3), Hand: n(), Port: n(), Time: uint64(n()), Way: n(), L: []change{ch(n(), uint64(n()), int64(n()))}}
			l = append(l, entry{Who: o.Who, Mark: i + 1, Op: o, Answer: answer{N: n(), Err: api.Errno(n()), Times: []uint64{uint64(n())}}})
			if d.roll(4) == 0 {
				l[i].Who, l[i].Begin, l[i].Mark, l[i].End = n(), n(), n(), n()
			}
		}
		p := plan(2)
		if d.roll(5) == 0 {
			p.Threads = n()
		}
		accesses := []mem.Event{{Who: n(), Kind: n(), At: n()}, {Who: n(), Kind: n(), At: n(), Ok: true}}
		safe, open := plainly(p, l)
		if audit.Safe(p, l) != safe {
			t.Fatalf("seed %d: safe %v: %v", seed, !safe, l)
		}
		opens(t, "anything", p, l, open...)
		audit.Check(p, l, accesses)
	}
}
