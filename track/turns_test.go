package track_test

import (
	"slices"
	"strconv"
	"testing"

	"marchland/batch"
	"marchland/graph"
	"marchland/mem"
	"marchland/model"
	"marchland/track"
)

// everyTurn runs something in all its turns: choose tells which of n is next.
func everyTurn(run func(choose func(n int) int)) {
	var path, widths []int
	for {
		at := 0
		run(func(n int) int {
			if at == len(path) {
				path, widths = append(path, 0), append(widths, n)
			}
			at++
			return path[at-1]
		})
		for len(path) > 0 && path[len(path)-1] == widths[len(path)-1]-1 {
			path, widths = path[:len(path)-1], widths[:len(path)-1]
		}
		if len(path) == 0 {
			return
		}
		path[len(path)-1]++
	}
}

// worker does things, one behind the other; the one behind all threads goes round as often as it has things. Its last
// Step was in vain, if the latch that it was for was somebody's.
type worker struct {
	who   int
	left  []op
	now   *track.Act
	vain  bool
	latch int
}

// run is a kit whose threads are in the midst of things; held and gone are what is told of them at each Step.
type run struct {
	*kit
	workers []*worker
	held    []uint64
	gone    map[int]uint64
}

func (k *kit) run(jobs [][]op) *run {
	r := &run{kit: k, held: k.fronts(), gone: map[int]uint64{}}
	for who, l := range jobs {
		r.workers = append(r.workers, &worker{who: who, left: l})
	}
	return r
}

// going is those who have something to do, neither sleep nor wait for a latch.
func (r *run) going() []*worker {
	m := r.x.Mem()
	return slices.DeleteFunc(slices.Clone(r.workers), func(w *worker) bool {
		return w.now == nil && len(w.left) == 0 || m.Asleep(w.who) || w.vain && m.Holder(w.latch) >= 0
	})
}

// step goes on by one Step of somebody's.
func (r *run) step(w *worker) {
	if w.now == nil {
		w.now, w.left = r.begin(w.who, w.left[0]), w.left[1:]
	}
	over := w.now.Step()
	l := r.x.Mem().Log()
	e := l[len(l)-1]
	w.vain, w.latch = e.Who == w.who && e.Kind == mem.Take && !e.Ok, e.At
	if over {
		if w.now.Answer().N == 1 {
			r.says(w.who)
		}
		w.now = nil
	}
}

// says: what a thread did is over; if it says that a time has gone by, that is to stay so.
func (r *run) says(who int) {
	if o := r.does(who); who < r.p.Threads && (o.Kind == model.Done || o.Kind == model.Wait) {
		r.gone[o.Port] = max(r.gone[o.Port], o.Time)
	}
}

// holds: of what all threads hold now no front goes back, and none is at a time that has gone by (P16.3, P3).
func (r *run) holds() {
	now := r.fronts()
	for port, time := range now {
		if said, any := r.gone[port]; time < r.held[port] || any && time <= said {
			r.t.Fatalf("at %d %d may come, it was %d, and gone by has %d: %v", port, time, r.held[port], said, r.x.Log())
		}
	}
	r.held = now
}

// over holds all that came about, when nobody goes on: nobody is stuck, and who sleeps waits for what isn't shown yet.
// It tells what a Model is like then.
func (r *run) over() *model.Model {
	r.free()
	r.right()
	r.apart()
	r.holds()
	m := r.safe()
	r.hasAs(m)
	for _, w := range r.workers {
		if w.now == nil && len(w.left) == 0 {
			continue
		}
		if w.now == nil || !w.now.Asleep() || m.Closed() {
			r.t.Fatalf("%d is stuck: %v", w.who, r.x.Log())
		}
		if o := r.does(w.who); o.Kind != model.Wait || m.Shown()[o.Port] > o.Time {
			r.t.Fatalf("%d sleeps over %v, shown is %v: %v", w.who, o, m.Shown(), r.x.Log())
		}
	}
	return m
}

// does is what a thread began last, but its Puts.
func (r *run) does(who int) op {
	l := r.x.Log()
	i := len(l) - 1
	for l[i].Who != who || l[i].Op.Kind == model.Put {
		i--
	}
	return l[i].Op
}

// turns lets all go on by choices; who goes on does so till he can't, or a choice is spent on somebody else.
func (r *run) turns(spent int, choose func(n int) int) {
	var now *worker
	for l := r.going(); len(l) > 0; l = r.going() {
		i := slices.Index(l, now)
		switch {
		case i < 0:
			now = l[choose(len(l))]
		case spent > 0 && len(l) > 1:
			l[0], l[i] = l[i], l[0]
			if next := l[choose(len(l))]; next != now {
				now, spent = next, spent-1
			}
		}
		r.step(now)
	}
	r.over()
}

func sweeps(n int) []op { return make([]op, n) }

// P16.2, P16.3, P16.5, P4: things of threads, and Sweeps, in every turn in which so many choices are spent.
func TestEveryTurn(t *testing.T) {
	on := []op{advance(0, 5)}
	onAndOn := []op{advance(0, 5), advance(0, 6), advance(0, 7)}
	for i, c := range []struct {
		p     model.Plan
		spent int
		jobs  [][]op
	}{
		{one(), 4, [][]op{on, sweeps(1)}},
		{one(), 3, [][]op{{advance(0, 5), done(0, 4)}, sweeps(1)}},
		{one(), 2, [][]op{onAndOn, sweeps(2)}},
		{room(one(), 2, 1, 1), 3, [][]op{onAndOn, sweeps(1)}},
		{room(one(), 1, 2, 1), 2, [][]op{{advance(0, 5), update(ch(0, 5, 1)), shutHand(0), update(ch(0, 5, -1))}, sweeps(2)}},
		{two(), 2, [][]op{on, {done(0, 4), done(0, 4)}, sweeps(1)}},
		{plan(2, 1, nil, 0), 2, [][]op{on, {wait(0, 4)}, sweeps(1)}},
		{two(), 2, [][]op{on, {wait(0, 4), wait(0, 5)}, sweeps(1)}},
		{two(), 5, [][]op{{shut}, {wait(0, 4)}}},
		{two(), 2, [][]op{{shut}, {wait(0, 4), wait(1, 4)}, sweeps(1)}},
		{two(), 2, [][]op{{advance(0, 5), shut, advance(0, 6)}, {wait(0, 4), wait(0, 5), advance(1, 1)}, sweeps(1)}},
		{two(), 2, [][]op{{wait(1, 2)}, {wait(0, 4)}, sweeps(1)}},
		{two(), 4, [][]op{{open(0)}, {open(1)}}},
		{two(), 3, [][]op{{open(0), shutHand(0)}, {shutHand(1), open(1)}}},
		{two(), 3, [][]op{{open(0), shutHand(0)}, {shut, open(1)}}},
		{two(), 2, [][]op{{open(0)}, {shutHand(1), open(1)}, sweeps(1)}},
		{two(), 2, [][]op{onAndOn, {update(ch(1, 9, 1))}, sweeps(1)}},
		{room(two(), 1, 2, 1), 2, [][]op{{update(ch(0, 1, 1), ch(1, 4, 1)), shutHand(0)}, {fronts, done(0, 0)}, sweeps(1)}},
	} {
		t.Run(strconv.Itoa(i), func(t *testing.T) {
			t.Parallel()
			many := 0
			everyTurn(func(choose func(int) int) {
				made(t, c.p).run(c.jobs).turns(c.spent, choose)
				many++
			})
			if many < 10 {
				t.Errorf("%d turns alone", many)
			}
		})
	}
}

// anyPlan is one of few ports, with an input for each of some threads.
func anyPlan(d *dice) model.Plan {
	ports := 1 + d.roll(4)
	var e edges
	for range d.roll(6) {
		x := graph.Edge{From: d.roll(ports), To: d.roll(ports), Add: uint64(d.roll(3))}
		if x.To <= x.From {
			x.Add++
		}
		e = append(e, x)
	}
	inputs := []int{0, 1, 2, 3}[:1+d.roll(ports)]
	return room(plan(1+d.roll(4), ports, e, inputs...), 1<<d.roll(3), 1+d.roll(3), 1+d.roll(2))
}

// any is something that a worker does next: of the drainer a Sweep, of a thread something of what it has then.
func (r *run) any(d *dice, who int) []op {
	switch {
	case who == r.p.Threads:
		return sweeps(1)
	case d.roll(60) == 0:
		return []op{shut}
	case d.roll(6) == 0:
		return []op{wait(d.roll(r.p.Graph.Ports+1), uint64(d.roll(12)))}
	}
	return []op{thing(d, r.p, r.x.Own(who))}
}

// random lets all go on by so many picks, each of whom begins something new when he has nothing to do; sometimes one goes
// on for long. Whatever comes about is held at each Step, the Log now and then.
func (r *run) random(d *dice, picks int) {
	for who := range r.p.Threads + 1 {
		r.workers = append(r.workers, &worker{who: who})
	}
	for picks > 0 {
		w := pick(d, r.workers)
		for many := 1 + d.roll(3)*d.roll(20); many > 0; many-- {
			picks--
			if w.now == nil {
				w.left = r.any(d, w.who)
			}
			if r.x.Mem().Asleep(w.who) {
				break
			}
			r.step(w)
			r.holds()
		}
		if d.roll(20) == 0 {
			r.right()
		}
	}
}

// rest lets all go on in turn, till nobody does anything more, and goes round once more then: within so many rounds each.
func (r *run) rest(rounds int) {
	r.inTurn(rounds)
	r.workers[r.p.Threads].left = sweeps(1)
	r.inTurn(rounds)
}

func (r *run) inTurn(rounds int) {
	for any := true; any; rounds-- {
		any = false
		for _, w := range r.workers {
			if (w.now != nil || len(w.left) > 0) && !r.x.Mem().Asleep(w.who) {
				r.step(w)
				r.holds()
				any = true
			}
		}
		if any && rounds <= 0 {
			r.t.Fatalf("nobody comes to rest: %v", r.x.Log())
		}
	}
}

// sleepers is how many are in the midst of something, when nobody goes on.
func (r *run) sleepers() int {
	many := 0
	for _, w := range r.workers {
		if w.now != nil {
			many++
		}
	}
	return many
}

// P16.2, P16.3, P16.5, P3, P4: many things of many threads, in many turns; and when nobody begins anything more all
// comes to rest, and all that is held is folded.
func TestManyInManyTurns(t *testing.T) {
	t.Parallel()
	d, slept := dice(7), 0
	for range 600 {
		k := made(t, anyPlan(&d))
		r := k.run(nil)
		r.random(&d, 400+d.roll(400))
		r.rest(len(r.workers) * 3 * k.bound)
		m := r.over()
		if !batch.Same(m.Folded(), k.all()) || !slices.Equal(m.Shown(), k.fronts()) {
			t.Fatalf("at rest %v is held, and %v folded: %v", k.all(), m.Folded(), m.Shown())
		}
		slept += r.sleepers()
	}
	if slept == 0 {
		t.Error("nobody ever slept at rest")
	}
}

// P4: when it is shut nobody sleeps, whoever was in the midst of whatever.
func TestNobodySleepsWhenShut(t *testing.T) {
	t.Parallel()
	d, slept := dice(11), 0
	for range 200 {
		k := made(t, anyPlan(&d))
		r := k.run(nil)
		r.random(&d, 200+d.roll(200))
		r.rest(len(r.workers) * 3 * k.bound)
		i := slices.IndexFunc(r.workers, func(w *worker) bool { return w.now == nil && w.who < k.p.Threads })
		slept += r.sleepers()
		if i < 0 {
			continue
		}
		k.do(i, shut, fine)
		r.rest(len(r.workers) * 3 * k.bound)
		if r.sleepers() > 0 {
			t.Fatalf("somebody sleeps, and it is shut: %v", k.x.Log())
		}
		r.over()
	}
	if slept == 0 {
		t.Error("nobody ever slept ahead of it")
	}
}
