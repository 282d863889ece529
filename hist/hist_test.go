package hist_test

import (
	"math"
	"slices"
	"testing"

	"marchland/api"
	"marchland/batch"
	"marchland/graph"
	"marchland/hist"
	"marchland/model"
)

type (
	op     = model.Op
	answer = model.Answer
	entry  = hist.Entry
)

func no(e api.Errno) answer { return answer{Err: e} }

// plan is one of two ports, 3 apart, with an input each: of each of the first two threads one.
func plan(threads int) model.Plan {
	g := graph.Graph{Ports: 2, Edges: []graph.Edge{{From: 0, To: 1, Add: 3}}, Inputs: []int{0, 1}}
	return model.Plan{Graph: g, Threads: threads, Ring: 1, Shards: 1, Tries: 1}
}

// did is an Entry of a thread, over with its Mark.
func did(who, kind, mark int, a answer) entry {
	return entry{Who: who, Mark: mark, End: mark, Op: op{Kind: kind, Who: who}, Answer: a}
}

// ran is one of the drainer of two threads; of a Pop its Op has the thread.
func ran(kind, who, mark int, a answer) entry {
	return entry{Who: 2, Mark: mark, End: mark, Op: op{Kind: kind, Who: who}, Answer: a}
}

// dice is a row of numbers that is the same each time.
type dice uint64

func (d *dice) roll(n int) int {
	*d = *d*6364136223846793005 + 1442695040888963407
	return int(uint64(*d)>>33) % n
}

// check holds Check of two threads.
func check(t *testing.T, name string, l []entry, want int) {
	t.Helper()
	if got := hist.Check(plan(2), l); got != want {
		t.Errorf("%s: %d, want %d", name, got, want)
	}
}

// P15.1: the document's example, of the chapter and of the whole.
func TestExample(t *testing.T) {
	shut := did(0, model.Shut, 2, answer{})
	check(t, "behind", []entry{shut, did(1, model.Wait, 3, no(api.ErrClosed))}, -1)
	check(t, "ahead", []entry{shut, did(1, model.Wait, 1, no(api.ErrClosed))}, 1)
	check(t, "ahead, in the place ahead", []entry{did(1, model.Wait, 1, no(api.ErrClosed)), shut}, 0)
}

// right holds Right of some threads, and what Check says to it.
func right(t *testing.T, name string, threads int, l []entry, want bool) {
	t.Helper()
	if got := hist.Right(threads, l); got != want {
		t.Errorf("%s: of %d threads %v: %v", name, threads, l, got)
	}
	if checked := hist.Check(plan(threads), l); (checked != -2) != want {
		t.Errorf("%s: of %d threads %v: Check: %d", name, threads, l, checked)
	}
}

// P15.1
func TestRightOfThreads(t *testing.T) {
	for _, threads := range []int{math.MinInt, -8, -1, 0, 1, 2, 3, 4, 5, 6, 7, 8, 9, 10, 64, math.MaxInt} {
		may := threads >= 1 && threads <= 8
		right(t, "nothing", threads, nil, may)
		right(t, "nothing", threads, []entry{}, may)
		right(t, "a Shut", threads, []entry{did(0, model.Shut, 1, answer{})}, may)
	}
}

// P15.1: the threads are 0 to threads less 1, and threads is the drainer; each does what is his.
func TestRightOfWhose(t *testing.T) {
	for threads := 1; threads <= 8; threads++ {
		for _, who := range []int{math.MinInt, -1, 0, 1, 2, 3, 4, 5, 6, 7, 8, 9, math.MaxInt} {
			for _, kind := range []int{math.MinInt, -1, 0, 1, 2, 3, 4, 5, 6, 7, 8, 9, 10, 11, 12, 13, math.MaxInt} {
				thread := who >= 0 && who < threads && kind >= 0 && kind <= 8
				drainer := who == threads && kind >= 9 && kind <= 11
				right(t, "whose", threads, []entry{{Who: who, Op: op{Kind: kind, Who: who}}}, thread || drainer)
				right(t, "over", threads, []entry{did(who, kind, 5, answer{})}, thread || drainer)
			}
		}
	}
}

// P15.1: a thread's Op is its own, the drainer's may name anybody.
func TestRightOfOps(t *testing.T) {
	for kind := model.Open; kind <= model.Show; kind++ {
		for who := range 3 {
			for _, of := range []int{math.MinInt, -1, 0, 1, 2, 3, 8, math.MaxInt} {
				want := who < 2 && kind <= model.Put && of == who || who == 2 && kind >= model.Drain
				right(t, "Op's Who", 2, []entry{{Who: who, Op: op{Kind: kind, Who: of}}}, want)
			}
		}
	}
	far := op{Kind: model.Fronts, Who: 1, Hand: -5, Port: 99, Time: api.Never, L: []batch.Change{{Port: 70}}, Way: 9}
	right(t, "whatever else", 2, []entry{{Who: 1, Op: far, Answer: answer{N: -9, Err: 77, Times: []uint64{1}}}}, true)
}

// P15.1: Begin, Mark, End, with nought and one less and one more of each.
func TestRightOfTimes(t *testing.T) {
	l := []int{math.MinInt, -2, -1, 0, 1, 2, 3, 4, math.MaxInt}
	for _, begin := range l {
		for _, mark := range l {
			for _, end := range l {
				want := begin >= 0
				if mark != 0 {
					want = want && mark >= 0 && mark > begin
				}
				if end != 0 {
					want = want && mark > 0 && end >= mark
				}
				right(t, "times", 2, []entry{{Begin: begin, Mark: mark, End: end, Op: op{Kind: model.Shut}}}, want)
			}
		}
	}
}

// P15.1: none of two have the same Mark, whoever they are of; but any number have none.
func TestRightOfMarks(t *testing.T) {
	shut := func(who, mark int) entry { return entry{Who: who, Mark: mark, Op: op{Kind: model.Shut, Who: who}} }
	for n := 2; n < 6; n++ {
		for i := range n {
			for j := range n {
				l := make([]entry, n)
				for k := range l {
					l[k] = shut(k%2, 10-k)
				}
				l[i].Mark = l[j].Mark
				right(t, "two", 2, l, i == j)
				l[i].Mark, l[j].Mark = 0, 0
				right(t, "none", 2, l, true)
			}
		}
	}
	both := []entry{shut(0, 4), ran(model.Drain, 0, 4, answer{})}
	right(t, "the drainer's too", 2, both, false)
	right(t, "all none", 2, []entry{shut(0, 0), shut(1, 0), shut(0, 0), {Who: 2, Op: op{Kind: model.Show}}}, true)
}

// P15.1: one that isn't right is enough, wherever it is.
func TestRightOfAll(t *testing.T) {
	for place := range 4 {
		for _, bad := range []entry{
			{Who: 3, Op: op{Kind: model.Shut, Who: 3}},
			{Who: 0, Op: op{Kind: model.Drain}},
			{Who: 1, Op: op{Kind: model.Shut}},
			{Who: 2, Op: op{Kind: model.Put}},
			{Begin: -1},
			{Begin: 2, Mark: 2},
			{End: 1},
			{Mark: 2, End: 1},
		} {
			l := []entry{did(0, model.Shut, 4, answer{}), ran(model.Drain, 0, 3, answer{}), did(1, model.Fronts, 5, answer{Times: []uint64{0, 0}})}
			right(t, "good", 2, l, true)
			right(t, "bad", 2, slices.Insert(l, place, bad), false)
		}
	}
}

// P15.1: as many as there may be, and one more.
func TestRightOfMany(t *testing.T) {
	var none, some []entry
	for i := range 65536 {
		none = append(none, entry{Op: op{Kind: model.Open}})
		some = append(some, did(i%2, model.Done, 65536-i, answer{}))
	}
	for _, l := range [][]entry{none, some} {
		if !hist.Right(2, l) || hist.Check(plan(2), l) != -1 {
			t.Error("65536 are too many")
		}
		more := append(slices.Clone(l), entry{Op: op{Kind: model.Open}})
		if hist.Right(2, more) || hist.Check(plan(2), more) != -2 {
			t.Error("65537 aren't")
		}
	}
	some[777].Answer.N = 1
	if hist.Check(plan(2), some) != 777 {
		t.Error("of 65536 one is lost")
	}
}

// P15.1: there is no Model of a plan that may not be.
func TestCheckOfPlans(t *testing.T) {
	good := plan(2)
	l := []model.Plan{{}, good, good, good, good, good, good}
	l[1].Graph.Ports = 0
	l[2].Graph.Inputs = nil
	l[3].Ring = 3
	l[4].Shards = 9
	l[5].Tries = 0
	l[6].Threads = 0
	for _, p := range l {
		for _, entries := range [][]entry{nil, {did(0, model.Shut, 1, answer{})}, {did(0, model.Shut, 1, no(api.ErrArg))}} {
			if got := hist.Check(p, entries); got != -2 {
				t.Errorf("of %v: %d", p, got)
			}
		}
	}
	check(t, "nothing", nil, -1)
	check(t, "nothing", []entry{}, -1)
	// What is right of more threads may not be of fewer.
	third := []entry{did(2, model.Shut, 1, answer{})}
	check(t, "a third thread", third, -2)
	if got := hist.Check(plan(3), third); got != -1 {
		t.Error(got)
	}
}

// P15.1: of several the first one in the order of the Marks, not in that of the places.
func TestCheckTellsTheFirst(t *testing.T) {
	bad := func(mark int) entry { return did(0, model.Fronts, mark, answer{N: 1}) }
	good := func(mark int) entry { return did(1, model.Fronts, mark, answer{Times: []uint64{0, 0}}) }
	check(t, "none", []entry{good(3), good(1), good(2)}, -1)
	check(t, "one", []entry{good(3), bad(1), good(2)}, 1)
	check(t, "two", []entry{bad(3), good(2), bad(1)}, 2)
	check(t, "all", []entry{bad(3), bad(1), bad(2)}, 1)
	check(t, "far apart", []entry{bad(math.MaxInt), good(1), bad(1 << 40)}, 2)
	check(t, "rising", []entry{good(1), bad(7), bad(8)}, 1)
}

// P15.1: an Answer counts with all of it.
func TestCheckOfAnswers(t *testing.T) {
	for _, a := range []answer{{}, {N: 1, Times: []uint64{0, 0}}, {Err: api.ErrArg, Times: []uint64{0, 0}}, {Times: []uint64{0}}, {Times: []uint64{0, 1}}, {Times: []uint64{0, 0, 0}}} {
		check(t, "Fronts", []entry{did(0, model.Fronts, 1, a)}, 0)
	}
	check(t, "empty", []entry{did(0, model.Shut, 1, answer{Times: []uint64{}})}, -1)
	check(t, "one that isn't a thread", []entry{ran(model.Pop, 2, 1, answer{N: -1, Err: api.ErrArg})}, -1)
	check(t, "one that isn't a thread", []entry{ran(model.Pop, -1, 1, answer{})}, 0)
}

// P15.1: what hasn't taken effect isn't done, whatever it is answered; what took effect, and isn't over, is done, and no answer of it counts.
func TestCheckOfWhatIsntOver(t *testing.T) {
	closed := did(1, model.Wait, 9, no(api.ErrClosed))
	open := did(1, model.Wait, 9, answer{})
	for _, a := range []answer{{}, {N: 7}, no(api.ErrArg)} {
		shut := entry{Begin: 3, Op: op{Kind: model.Shut}, Answer: a}
		check(t, "not yet", []entry{shut, open}, -1)
		check(t, "not yet", []entry{shut, closed}, 1)
		shut.Mark = 4
		check(t, "not over", []entry{shut, closed}, -1)
		check(t, "not over", []entry{shut, open}, 1)
		shut.Mark = 10
		check(t, "behind", []entry{shut, open}, -1)
		check(t, "behind", []entry{shut, closed}, 1)
	}
	over := did(0, model.Shut, 4, answer{N: 7})
	check(t, "over", []entry{over, closed}, 0)
}

// way is what the document's example of layer 14 does, by two threads and the drainer.
func way() []entry {
	five := did(0, model.Advance, 1, answer{})
	five.Op.Time = 5
	nine := did(1, model.Advance, 2, answer{})
	nine.Op.Hand, nine.Op.Time = 1, 9
	pooled := did(1, model.Put, 4, answer{N: 1})
	pooled.Op.Way = 1
	four := did(1, model.Done, 9, answer{N: 1})
	four.Op.Time = 4
	return []entry{
		five, nine, did(0, model.Put, 3, answer{N: 1}), pooled,
		ran(model.Drain, 0, 5, answer{N: 2}), ran(model.Pop, 0, 6, answer{N: 1}), ran(model.Pop, 1, 7, answer{}), ran(model.Show, 0, 8, answer{Times: []uint64{5, 8}}),
		four, did(0, model.Fronts, 10, answer{Times: []uint64{5, 8}}),
	}
}

// P15.1: of all Kinds of both; in whichever places they stand.
func TestCheckOfAWay(t *testing.T) {
	check(t, "the way", way(), -1)
	for i := range way() {
		l := way()
		l[i].Answer.N += 2
		check(t, "another answer", l, i)
		l[i].End = 0
		check(t, "no answer", l, -1)
	}
	back := way()
	slices.Reverse(back)
	check(t, "back", back, -1)
	back[9-7].Answer.Times = []uint64{5, 9}
	check(t, "back", back, 9-7)
	// The Show ahead of the Pop: what is staged then is of thread 1 alone.
	l := way()
	l[5].Mark, l[5].End, l[7].Mark, l[7].End = 8, 8, 6, 6
	check(t, "swapped", l, 7)
}

// maker makes a history access by access: each begins, takes effect on one Model, and ends, while others do likewise.
type maker struct {
	m    *model.Model
	p    model.Plan
	l    []entry
	busy []int
	time int
}

func makes(p model.Plan) *maker {
	m, _ := model.New(p)
	return &maker{m: m, p: p, busy: slices.Repeat([]int{-1}, p.Threads+1)}
}

// thing is something that who may do.
func (k *maker) thing(d *dice, who int) op {
	if who == k.p.Threads {
		o := op{Kind: model.Drain + d.roll(3)}
		if o.Kind == model.Pop {
			o.Who = d.roll(k.p.Threads)
		}
		return o
	}
	o := op{Kind: d.roll(9), Who: who, Port: d.roll(3), Time: uint64(k.time/9 + d.roll(6)), Way: d.roll(2)}
	if o.Kind == model.Shut && d.roll(30) > 0 {
		o.Kind = model.Put
	}
	if hands := k.m.Own(who).Hands; len(hands) > 0 {
		o.Hand = hands[d.roll(len(hands))].Id
	}
	if o.Kind == model.Update {
		o.L = []batch.Change{{Port: d.roll(2), Time: o.Time, Diff: int64(1 + d.roll(2))}}
	}
	return o
}

// step: who begins something, or goes on with what is under way.
func (k *maker) step(d *dice, who int) {
	i := k.busy[who]
	switch {
	case i < 0:
		k.busy[who] = len(k.l)
		k.l = append(k.l, entry{Who: who, Begin: k.time, Op: k.thing(d, who)})
		return
	case d.roll(3) == 0:
		k.time++
		return
	case k.l[i].Mark == 0:
		k.time++
		k.l[i].Mark = k.time
		k.l[i].Answer = k.m.Do(k.l[i].Op)
		if d.roll(4) > 0 {
			return
		}
	}
	k.l[i].End = k.time
	k.busy[who] = -1
}

// history is what came about; what isn't over has no answer.
func (k *maker) history() []entry {
	l := slices.Clone(k.l)
	for i := range l {
		if l[i].End == 0 {
			l[i].Answer = answer{}
		}
	}
	return l
}

func mixed(d *dice, l []entry) []entry {
	for i := range l {
		j := d.roll(i + 1)
		l[i], l[j] = l[j], l[i]
	}
	return l
}

// replay is Check told most plainly: a Model of its own does again and again the one of the least Mark.
func replay(p model.Plan, l []entry) int {
	m, _ := model.New(p)
	for last := 0; ; {
		next := -1
		for i, x := range l {
			if x.Mark > last && (next < 0 || x.Mark < l[next].Mark) {
				next = i
			}
		}
		if next < 0 {
			return -1
		}
		last = l[next].Mark
		a, want := m.Do(l[next].Op), l[next].Answer
		if l[next].End != 0 && (a.N != want.N || a.Err != want.Err || !slices.Equal(a.Times, want.Times)) {
			return next
		}
	}
}

// P15.2, P2: what came about is right; with another answer it isn't, and the place of that is told.
func TestWhatCameAbout(t *testing.T) {
	for seed := range 400 {
		d := dice(seed)
		p := plan(1 + d.roll(3))
		p.Ring = 1 << d.roll(3)
		k := makes(p)
		for range 150 {
			k.step(&d, d.roll(p.Threads+1))
		}
		l := mixed(&d, k.history())
		if !hist.Right(p.Threads, l) || hist.Check(p, l) != -1 {
			t.Fatalf("seed %d: %d of %v", seed, hist.Check(p, l), l)
		}
		i := d.roll(len(l))
		l[i].Answer.N += 5
		want := i
		if l[i].End == 0 {
			want = -1
		}
		if got := hist.Check(p, l); got != want {
			t.Fatalf("seed %d: %d, want %d of %v", seed, got, want, l)
		}
	}
}

// P15.2: where Marks are others, each still between its Begin and its End, Check says what one thing behind the other says.
func TestOtherMarks(t *testing.T) {
	various := map[bool]int{}
	for seed := range 600 {
		d := dice(seed + 1000)
		p := plan(5)
		k := makes(p)
		for range 20 + d.roll(200) {
			k.step(&d, d.roll(6))
		}
		l := mixed(&d, k.history())
		for i := range l {
			for j := range l {
				if swaps(l[i], l[j]) {
					l[i].Mark, l[j].Mark = l[j].Mark, l[i].Mark
				}
			}
		}
		got := hist.Check(p, l)
		if want := replay(p, l); got != want {
			t.Fatalf("seed %d: %d, want %d of %v", seed, got, want, l)
		}
		various[got < 0]++
	}
	if various[true] < 50 || various[false] < 50 {
		t.Errorf("they are too much alike: %v", various)
	}
}

// swaps: may they change their Marks, so that each is still in its time?
func swaps(a, b entry) bool {
	fits := func(x entry, mark int) bool { return mark > x.Begin && (x.End == 0 || mark <= x.End) }
	return a.Mark != 0 && b.Mark != 0 && fits(a, b.Mark) && fits(b, a.Mark)
}

// P15.2: three things at once, in each order of their Marks, and with all answers that each may have in one of these.
func TestEveryOrder(t *testing.T) {
	l := []entry{did(0, model.Shut, 1, answer{}), did(1, model.Wait, 2, answer{}), did(1, model.Open, 3, answer{})}
	l[1].Op.Port, l[2].Op.Hand = 1, 1
	answers := [][]answer{{{}, {N: 1}}, {{}, no(api.ErrClosed)}, {{N: 2}, no(api.ErrClosed)}}
	held := 0
	for _, marks := range [][]int{{1, 2, 3}, {1, 3, 2}, {2, 1, 3}, {2, 3, 1}, {3, 1, 2}, {3, 2, 1}} {
		for n := range 8 {
			for i := range l {
				l[i].Mark, l[i].End, l[i].Answer = marks[i], 3, answers[i][n>>i&1]
			}
			got := hist.Check(plan(2), l)
			if want := replay(plan(2), l); got != want {
				t.Errorf("%v: %d, want %d", l, got, want)
			}
			if got < 0 {
				held++
			}
		}
	}
	if held != 6 {
		t.Errorf("%d come off, of each order there is one", held)
	}
}

// P15.3: neither the list nor what is in it is changed, its spare room neither; and nothing of it is kept.
func TestNothingIsChanged(t *testing.T) {
	for seed := range 50 {
		d := dice(seed + 3)
		k := makes(plan(2))
		for range 80 {
			k.step(&d, d.roll(3))
		}
		l := mixed(&d, k.history())
		n := len(l)
		l = append(l, did(7, 77, 777, answer{}), did(8, 88, 888, answer{}))
		p := plan(2)
		before, planned := deep(l), deepPlan(p)
		hist.Right(2, l[:n])
		hist.Check(p, l[:n])
		if !slices.EqualFunc(before, l, alike) || !slices.Equal(planned.Graph.Edges, p.Graph.Edges) || !slices.Equal(planned.Graph.Inputs, p.Graph.Inputs) {
			t.Fatalf("seed %d: %v is made %v", seed, before, l)
		}
		if first, again := hist.Check(p, l[:n]), hist.Check(p, l[:n]); first != again {
			t.Fatalf("seed %d: %d, and then %d", seed, first, again)
		}
	}
}

func deep(l []entry) []entry {
	l = slices.Clone(l)
	for i := range l {
		l[i].Op.L, l[i].Answer.Times = slices.Clone(l[i].Op.L), slices.Clone(l[i].Answer.Times)
	}
	return l
}

func deepPlan(p model.Plan) model.Plan {
	p.Graph.Edges, p.Graph.Inputs = slices.Clone(p.Graph.Edges), slices.Clone(p.Graph.Inputs)
	return p
}

func alike(a, b entry) bool {
	x, y := a.Op, b.Op
	return a.Who == b.Who && a.Begin == b.Begin && a.Mark == b.Mark && a.End == b.End && x.Kind == y.Kind && x.Who == y.Who && x.Hand == y.Hand &&
		x.Port == y.Port && x.Time == y.Time && x.Way == y.Way && slices.Equal(x.L, y.L) && a.Answer.N == b.Answer.N && a.Answer.Err == b.Answer.Err && slices.Equal(a.Answer.Times, b.Answer.Times)
}

// P1: whatever there is in a list, calls end.
func TestAnything(t *testing.T) {
	numbers := []int{math.MinInt, -1, 0, 1, 2, 3, 8, 11, 12, 65, math.MaxInt}
	for seed := range 3000 {
		d := dice(seed)
		n := func() int { return numbers[d.roll(len(numbers))] }
		var l []entry
		for range d.roll(5) {
			o := op{Kind: n(), Who: n(), Hand: n(), Port: n(), Time: uint64(n()), Way: n(), L: []batch.Change{{Port: n(), Time: uint64(n()), Diff: int64(n())}}}
			l = append(l, entry{Who: n(), Begin: n(), Mark: n(), End: n(), Op: o, Answer: answer{N: n(), Err: api.Errno(n()), Times: []uint64{uint64(n())}}})
		}
		threads := n()
		if got := hist.Check(plan(threads), l); (got == -2) == hist.Right(threads, l) || got >= len(l) || got < -2 {
			t.Fatalf("%d of %v", got, l)
		}
	}
}
