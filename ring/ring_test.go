package ring_test

import (
	"math"
	"slices"
	"testing"

	"marchland/api"
	"marchland/batch"
	"marchland/clock"
	"marchland/mem"
	"marchland/ring"
)

var sizes = []int{1, 2, 4, 8, 16, 32, 64}

// The ends: whose Pushes and whose Pops they are, where nothing else is said.
const (
	pusher = 0
	popper = 1
)

// dice is a row of numbers that is the same each time.
type dice uint64

func (d *dice) roll(n int) int {
	*d = *d*6364136223846793005 + 1442695040888963407
	return int(uint64(*d)>>33) % n
}

// numbered is a Batch that tells a number.
func numbered(n int) batch.Batch {
	return batch.Batch{{Port: n % 64, Time: uint64(n), Diff: int64(n) + 1}, {Port: 63, Time: 1 << 40, Diff: -1}}
}

// made is a Ring of a size that lies at 0 in a Mem with no more than it needs (and a latch, to sleep by).
func made(t *testing.T, size int) (*mem.Mem, *ring.Ring) {
	t.Helper()
	m, e := mem.New(2, size, 1)
	if e != api.OK {
		t.Fatal(e)
	}
	r, e := ring.New(m, 0, 0, size)
	if e != api.OK || r == nil {
		t.Fatalf("New of size %d: %v", size, e)
	}
	return m, r
}

// end steps an act till it is over.
func end(t *testing.T, a *ring.Act) *ring.Act {
	t.Helper()
	for i := 0; !a.Step(); i++ {
		if i == 8 {
			t.Fatal("it isn't over within 8 Steps")
		}
	}
	return a
}

// begun is an act of one of the ends: of the pusher's with that number.
func begun(r *ring.Ring, end, n int) *ring.Act {
	if end == popper {
		return r.Pop(popper)
	}
	return r.Push(pusher, numbered(n))
}

// pushed: does a Push of that number come off?
func pushed(t *testing.T, r *ring.Ring, n int) bool {
	t.Helper()
	a := end(t, r.Push(pusher, numbered(n)))
	if len(a.Batch()) != 0 {
		t.Fatal("a Push tells a Batch")
	}
	return a.Ok()
}

// popped holds a Pop against the number that it should tell (-1: none).
func popped(t *testing.T, r *ring.Ring, want int) {
	t.Helper()
	a := end(t, r.Pop(popper))
	if want < 0 {
		if a.Ok() || len(a.Batch()) != 0 {
			t.Fatalf("a Pop of an empty one: %v, %v", a.Ok(), a.Batch())
		}
		return
	}
	if !a.Ok() || !batch.Same(a.Batch(), numbered(want)) {
		t.Fatalf("Pop: %v, %v, want %v", a.Ok(), a.Batch(), numbered(want))
	}
}

// fill lets a Ring be as if so many had gone through it, and so many waited, the first one numbered 0.
func fill(t *testing.T, r *ring.Ring, gone, many int) {
	t.Helper()
	for range gone {
		pushed(t, r, 77)
		popped(t, r, 77)
	}
	for n := range many {
		if !pushed(t, r, n) {
			t.Fatalf("%d of %d", n, many)
		}
	}
}

// apart holds the Log against layer 9.
func apart(t *testing.T, m *mem.Mem) {
	t.Helper()
	if i, j := clock.Race(m.Log()); i != -1 || j != -1 {
		t.Fatalf("a Race of %d and %d: %v", i, j, m.Log())
	}
}

// P11.1: the document's example.
func TestExample(t *testing.T) {
	_, r := made(t, 1)
	if !end(t, r.Push(0, nil)).Ok() || end(t, r.Push(0, nil)).Ok() || !end(t, r.Pop(1)).Ok() {
		t.Error("of size 1: Push: Ok; Push: not; Pop: Ok")
	}
}

// P11.1
func TestRight(t *testing.T) {
	for size := -200; size <= 200; size++ {
		if ring.Right(size) != slices.Contains(sizes, size) {
			t.Errorf("Right(%d)", size)
		}
	}
	for shift := range 64 {
		for _, off := range []int{-1, 0, 1} {
			if size := int(uint64(1)<<shift) + off; ring.Right(size) != slices.Contains(sizes, size) {
				t.Errorf("Right(%d)", size)
			}
		}
	}
	for _, size := range []int{math.MinInt, math.MaxInt, 1<<32 + 1, 1<<32 + 8} {
		if ring.Right(size) {
			t.Errorf("Right(%d)", size)
		}
	}
}

// P11.1, P1
func TestNew(t *testing.T) {
	m, _ := mem.New(200, 200, 0)
	for _, size := range sizes {
		for _, at := range []int{0, 1, 5, 130} {
			if r, e := ring.New(m, at, at, size); r == nil || e != api.OK {
				t.Errorf("New at %d of size %d: %v", at, size, e)
			}
		}
	}
	refused := func(m *mem.Mem, word, box, size int) {
		t.Helper()
		if r, e := ring.New(m, word, box, size); r != nil || e != api.ErrArg {
			t.Errorf("New at %d, %d of size %d: %v", word, box, size, e)
		}
	}
	for _, size := range []int{math.MinInt, -64, -4, -1, 0, 3, 5, 6, 7, 9, 12, 31, 33, 63, 65, 66, 128, 1 << 32, math.MaxInt} {
		refused(m, 0, 0, size)
	}
	for _, below := range []int{-1, -2, -64, math.MinInt} {
		refused(m, below, 0, 4)
		refused(m, 0, below, 4)
		refused(m, below, below, 4)
		refused(m, below, below, 3)
	}
	refused(nil, 0, 0, 4)
	refused(nil, -1, -1, 0)
	if m.Time() != 0 {
		t.Error("New makes an access")
	}
}

// P11.1, P11.2: of each size, wherever in its boxes it begins, and many times round.
func TestFullAndEmpty(t *testing.T) {
	for _, size := range sizes {
		for gone := range size + 1 {
			m, r := made(t, size)
			fill(t, r, gone, 0)
			popped(t, r, -1)
			for range 3 {
				for n := range size {
					if !pushed(t, r, n) {
						t.Fatalf("of size %d there is no room for %d", size, n)
					}
				}
				if pushed(t, r, 1000) || pushed(t, r, 1001) {
					t.Fatalf("of size %d there is room for one more", size)
				}
				for n := range size {
					popped(t, r, n)
				}
				popped(t, r, -1)
				popped(t, r, -1)
			}
			apart(t, m)
		}
	}
}

// P11.2: one comes, one goes, at each filling.
func TestOneComesOneGoes(t *testing.T) {
	for _, size := range sizes {
		for many := 1; many <= size; many++ {
			m, r := made(t, size)
			fill(t, r, 0, many)
			for n := range 3 * size {
				popped(t, r, n)
				if !pushed(t, r, n+many) {
					t.Fatalf("of size %d with %d", size, many-1)
				}
			}
			if pushed(t, r, 1000) != (many < size) {
				t.Fatalf("of size %d with %d", size, many)
			}
			apart(t, m)
		}
	}
}

// P11.1: it lies in its own words and boxes, and meets nothing else.
func TestWhereItLies(t *testing.T) {
	for _, size := range sizes {
		const word, box = 3, 5
		m, _ := mem.New(word+2+2, box+2*size, 1)
		r, _ := ring.New(m, word, box, size)
		other, _ := ring.New(m, word+2, box+size, size)
		for n := range 2*size + 1 {
			if pushed(t, r, n) != (n < size) {
				t.Fatalf("%d of %d", n, size)
			}
		}
		for _, e := range m.Log() {
			switch e.Kind {
			case mem.Load, mem.Store:
				if e.At != word && e.At != word+1 {
					t.Fatalf("size %d: %v", size, e)
				}
			case mem.Get, mem.Set:
				if e.At < box || e.At >= box+size {
					t.Fatalf("size %d: %v", size, e)
				}
			default:
				t.Fatalf("size %d: %v goes to a latch", size, e)
			}
		}
		popped(t, other, -1)
		for n := range size {
			if !pushed(t, other, 100+n) {
				t.Fatalf("the other one has no room for %d", n)
			}
		}
		for n := range size {
			popped(t, r, n)
			popped(t, other, 100+n)
		}
		popped(t, r, -1)
		popped(t, other, -1)
	}
}

// P11.1, P11.3: Step by Step.
func TestSteps(t *testing.T) {
	for _, size := range sizes {
		for _, many := range []int{0, size / 2, size} {
			for _, end := range []int{pusher, popper} {
				m, r := made(t, size)
				fill(t, r, 1, many)
				before := m.Time()
				a := begun(r, end, 9)
				want := batch.Batch(nil)
				if end == popper && many > 0 {
					want = numbered(0)
				}
				if m.Time() != before {
					t.Fatal("a begun act made an access")
				}
				steps := 0
				for over := false; !over; {
					if a.Over() || a.Mark() != 0 || a.Ok() || len(a.Batch()) != 0 {
						t.Fatalf("it isn't over: %v, %d, %v, %v", a.Over(), a.Mark(), a.Ok(), a.Batch())
					}
					over = a.Step()
					steps++
					if l := m.Log(); len(l) != before+steps || l[before+steps-1].Who != end {
						t.Fatalf("a Step isn't one access of who: %v", l[before:])
					}
				}
				if steps > 8 {
					t.Errorf("it took %d Steps", steps)
				}
				isOk := many < size
				if end == popper {
					isOk = many > 0
				}
				for range 3 {
					if !a.Over() || a.Mark() != before+steps || a.Ok() != isOk || !batch.Same(a.Batch(), want) || !a.Step() || m.Time() != before+steps {
						t.Fatalf("size %d with %d, of %d, over: %v, %d, %v, %v at %d", size, many, end, a.Over(), a.Mark(), a.Ok(), a.Batch(), m.Time())
					}
				}
				// What comes later changes none of it.
				pushed(t, r, 50)
				if a.Mark() != before+steps || a.Ok() != isOk || !batch.Same(a.Batch(), want) || !a.Step() {
					t.Fatal("an act that is over is another one later")
				}
			}
		}
	}
}

// P11.1, P5: of each end one at a time; a second one is nothing, and changes nothing.
func TestTwoOfOneEnd(t *testing.T) {
	for _, many := range []int{0, 1, 2} {
		for _, who := range []int{pusher, 5} {
			m, r := made(t, 2)
			fill(t, r, 0, many)
			push := r.Push(pusher, numbered(many))
			for over := false; !over; over = push.Step() {
				time := m.Time()
				if r.Push(who, numbered(99)) != nil || r.Push(who, nil) != nil || m.Time() != time {
					t.Fatal("a Push, while one isn't over")
				}
			}
			if push.Ok() != (many < 2) {
				t.Fatal("the first Push")
			}
			now := many
			if push.Ok() {
				now++
			}
			pop := r.Pop(popper)
			for over := false; !over; over = pop.Step() {
				time := m.Time()
				if r.Pop(who) != nil || m.Time() != time {
					t.Fatal("a Pop, while one isn't over")
				}
			}
			if !pop.Ok() || !batch.Same(pop.Batch(), numbered(0)) {
				t.Fatal("the first Pop")
			}
			if r.Push(pusher, nil) == nil || r.Pop(popper) == nil {
				t.Fatal("the ones ahead are over")
			}
			if r.Push(pusher, nil) != nil || r.Pop(popper) != nil {
				t.Fatal("those are not, without a Step")
			}
		}
	}
	// Neither end keeps the other one from beginning, at whatever Step.
	for _, first := range []int{pusher, popper} {
		for steps := range 3 {
			_, r := made(t, 4)
			fill(t, r, 0, 2)
			a := begun(r, first, 2)
			for range steps {
				a.Step()
			}
			b := begun(r, 1-first, 2)
			if b == nil || a.Over() {
				t.Fatal("the other end")
			}
			if !end(t, b).Ok() || !end(t, a).Ok() {
				t.Fatal("both come off")
			}
			popped(t, r, 1)
			popped(t, r, 2)
			popped(t, r, -1)
		}
	}
}

// P11.1: who sleeps makes no access, at whatever Step, and goes on when he is woken.
func TestSleeper(t *testing.T) {
	for _, who := range []int{pusher, popper} {
		for _, many := range []int{0, 1, 2} {
			for at := 0; ; at++ {
				m, r := made(t, 2)
				fill(t, r, 0, many)
				a := begun(r, who, many)
				for range at {
					a.Step()
				}
				over, mark, ok := a.Over(), a.Mark(), a.Ok()
				m.Take(who, 0)
				m.Sleep(who, 0)
				time := m.Time()
				for range 20 {
					if a.Step() != over || a.Over() != over || a.Mark() != mark || a.Ok() != ok || m.Time() != time {
						t.Fatalf("who sleeps behind %d Steps: %v", at, m.Log())
					}
				}
				if over {
					break
				}
				// The other one doesn't sleep: nothing is in his way.
				if who == pusher {
					if end(t, r.Pop(popper)).Ok() != (many > 0) {
						t.Fatal("the popper")
					}
				} else if pushed(t, r, many) != (many < 2) {
					t.Fatal("the pusher")
				}
				m.Take(9, 0)
				m.Wake(9, 0)
				m.Free(9, 0)
				end(t, a)
				if a.Mark() != m.Time() {
					t.Fatal("Mark")
				}
				apart(t, m)
			}
		}
	}
}

// P11.1, P1: a nil Ring, a nil Act; ones that no call made neither.
func TestNil(t *testing.T) {
	for _, r := range []*ring.Ring{nil, new(ring.Ring)} {
		if r.Push(0, numbered(1)) != nil || r.Push(0, nil) != nil || r.Pop(0) != nil || r.Push(-1, nil) != nil || r.Pop(-1) != nil {
			t.Error("of a nil Ring")
		}
	}
	for _, a := range []*ring.Act{nil, new(ring.Act)} {
		for range 3 {
			if !a.Step() || !a.Over() || a.Mark() != 0 || a.Ok() || len(a.Batch()) != 0 {
				t.Error("of a nil Act")
			}
		}
	}
}

// everyTurn runs something in all its turns: choose tells which of n is next.
func everyTurn(run func(choose func(n int) int)) {
	var path, widths []int
	for {
		at := 0
		run(func(n int) int {
			if at == len(path) {
				path, widths = append(path, 0), append(widths, n)
			}
			at++
			return path[at-1]
		})
		for len(path) > 0 && path[len(path)-1] == widths[len(path)-1]-1 {
			path, widths = path[:len(path)-1], widths[:len(path)-1]
		}
		if len(path) == 0 {
			return
		}
		path[len(path)-1]++
	}
}

// done is an act of a run: when it began and ended; push: which number, -1 of a Pop.
type done struct {
	a          *ring.Act
	push       int
	begin, end int
}

// one does so many Pushes, or Pops, one behind the other.
type one struct {
	left, next int
	pops       bool
	now        *done
}

// step begins the next act, if none is under way, and goes on by one Step.
func (o *one) step(m *mem.Mem, r *ring.Ring, all *[]*done) {
	if o.now == nil {
		o.now = &done{push: -1, begin: m.Time()}
		if o.pops {
			o.now.a = r.Pop(popper)
		} else {
			o.now.push = o.next
			o.now.a = r.Push(pusher, numbered(o.next))
			o.next++
		}
		*all = append(*all, o.now)
	}
	if o.now.a.Step() {
		o.now.end = m.Time()
		o.now = nil
		o.left--
	}
}

// turns runs so many Pushes and Pops of a Ring that has some, by choices, and holds it against a queue.
func turns(t *testing.T, size, gone, many, pushes, pops int, choose func(n int) int) {
	t.Helper()
	m, r := made(t, size)
	fill(t, r, gone, many)
	var all []*done
	ends := []*one{{left: pushes, next: many}, {left: pops, pops: true}}
	for {
		going := slices.DeleteFunc(slices.Clone(ends), func(o *one) bool { return o.left == 0 })
		if len(going) == 0 {
			break
		}
		going[choose(len(going))].step(m, r, &all)
	}
	var waiting []int
	for n := range many {
		waiting = append(waiting, n)
	}
	queue(t, m, size, waiting, all)
	apart(t, m)
}

// queue goes through acts in the order of their Marks: P11.2.
func queue(t *testing.T, m *mem.Mem, size int, waiting []int, all []*done) {
	t.Helper()
	slices.SortFunc(all, func(a, b *done) int { return a.a.Mark() - b.a.Mark() })
	last := 0
	for _, d := range all {
		mark := d.a.Mark()
		switch {
		case mark <= last || mark <= d.begin || mark != d.end:
			t.Fatalf("Mark %d of what went from %d to %d, behind %d", mark, d.begin, d.end, last)
		case d.push >= 0:
			if d.a.Ok() != (len(waiting) < size) {
				t.Fatalf("a Push of %d is %v with %d of %d: %v", d.push, d.a.Ok(), len(waiting), size, m.Log())
			}
			if d.a.Ok() {
				waiting = append(waiting, d.push)
			}
		case len(waiting) == 0:
			if d.a.Ok() || len(d.a.Batch()) != 0 {
				t.Fatalf("a Pop of an empty one: %v: %v", d.a.Batch(), m.Log())
			}
		default:
			if !d.a.Ok() || !batch.Same(d.a.Batch(), numbered(waiting[0])) {
				t.Fatalf("a Pop: %v, %v, want %v: %v", d.a.Ok(), d.a.Batch(), numbered(waiting[0]), m.Log())
			}
			waiting = waiting[1:]
		}
		last = mark
	}
}

// P11.2, P11.4: a Push and a Pop in every turn, at each filling of each size, empty and full among them.
func TestAPushAndAPopInEveryTurn(t *testing.T) {
	for _, size := range sizes {
		for many := range size + 1 {
			if many > 2 && many < size-2 {
				continue
			}
			for _, gone := range []int{0, 1, size - 1, size} {
				everyTurn(func(choose func(int) int) { turns(t, size, gone, many, 1, 1, choose) })
			}
		}
	}
}

// P11.2, P11.4: some Pushes and Pops in every turn.
func TestSomeInEveryTurn(t *testing.T) {
	for _, c := range [][4]int{{1, 0, 2, 2}, {1, 1, 2, 2}, {2, 0, 2, 2}, {2, 1, 2, 2}, {2, 2, 2, 2}, {1, 0, 3, 1}, {1, 1, 1, 3}} {
		everyTurn(func(choose func(int) int) { turns(t, c[0], 0, c[1], c[2], c[3], choose) })
	}
}

// P11.2, P11.3, P11.4: many of them, by turns that hurry now the one, now the other one.
func TestManyInManyTurns(t *testing.T) {
	d := dice(1)
	for _, size := range sizes {
		for range 20 {
			side, left := 0, 0
			choose := func(n int) int {
				if left == 0 {
					side, left = d.roll(2), 1+d.roll(12)
				}
				left--
				return side % n
			}
			turns(t, size, d.roll(2*size), d.roll(size+1), 60+d.roll(3*size), 60+d.roll(3*size), choose)
		}
	}
}

// P11.3: however they come, an act takes 8 Steps at most of its own.
func TestWithinEightSteps(t *testing.T) {
	for _, size := range sizes {
		for many := range size + 1 {
			_, r := made(t, size)
			fill(t, r, 0, many)
			push, pop := r.Push(pusher, numbered(1)), r.Pop(popper)
			for range 8 {
				push.Step()
				pop.Step()
			}
			if !push.Over() || !pop.Over() {
				t.Fatalf("of size %d with %d", size, many)
			}
		}
	}
}

// P11.4: by which the words part them: without one of the ends' Loads there would be a Race.
func TestBoxesAreParted(t *testing.T) {
	m, r := made(t, 1)
	for n := range 4 {
		pushed(t, r, n)
		popped(t, r, n)
	}
	apart(t, m)
	for _, who := range []int{pusher, popper} {
		blind := slices.DeleteFunc(m.Log(), func(e mem.Event) bool { return e.Kind == mem.Load && e.Who == who })
		if i, _ := clock.Race(blind); i < 0 {
			t.Errorf("without the Loads of %d there is no Race, either: the test tells nothing", who)
		}
	}
}

// P11.4: of one end several may be who, one behind the other.
func TestWhosOfOneEnd(t *testing.T) {
	for _, size := range []int{1, 2, 4} {
		m, r := made(t, size)
		d := dice(5)
		var waiting []int
		for n := range 300 {
			if d.roll(2) == 0 {
				if a := end(t, r.Push(d.roll(3), numbered(n))); a.Ok() != (len(waiting) < size) {
					t.Fatal(n)
				} else if a.Ok() {
					waiting = append(waiting, n)
				}
				continue
			}
			a := end(t, r.Pop(2+d.roll(4)))
			if a.Ok() != (len(waiting) > 0) || a.Ok() && !batch.Same(a.Batch(), numbered(waiting[0])) {
				t.Fatal(n)
			}
			if a.Ok() {
				waiting = waiting[1:]
			}
		}
		apart(t, m)
	}
}

// P11.5: the Batch that is handed in is neither kept nor changed, its spare room neither.
func TestPushKeepsNothing(t *testing.T) {
	for steps := range 5 {
		_, r := made(t, 2)
		room := append(slices.Grow(batch.Batch{}, 8), numbered(3)...)
		whole := slices.Clone(room[:cap(room)])
		a := r.Push(pusher, room)
		for range steps {
			a.Step()
		}
		if !slices.Equal(room[:cap(room)], whole) {
			t.Fatal("what is handed in is changed")
		}
		for i := range whole {
			room[:cap(room)][i] = batch.Change{Port: 44, Time: 44, Diff: 44}
		}
		end(t, a)
		for _, c := range room[:cap(room)] {
			if c.Port != 44 {
				t.Fatal("what is handed in is changed")
			}
		}
		popped(t, r, 3)
	}
}

// P11.5: what is told is new each time, and shares with nothing.
func TestBatchIsNew(t *testing.T) {
	m, r := made(t, 1)
	spoil := func(b batch.Batch) {
		b = b[:cap(b)]
		for i := range b {
			b[i] = batch.Change{Port: 44, Time: 44, Diff: 44}
		}
	}
	for n := range 3 {
		pushed(t, r, n)
		spoil(m.Get(popper, 0))
		a := end(t, r.Pop(popper))
		first, second := a.Batch(), a.Batch()
		spoil(first)
		if !batch.Same(second, numbered(n)) || !batch.Same(a.Batch(), numbered(n)) {
			t.Fatal("two answers share")
		}
		pushed(t, r, n+1)
		spoil(second)
		popped(t, r, n+1)
	}
	// One Batch pushed twice is two.
	_, r = made(t, 2)
	b := numbered(5)
	end(t, r.Push(pusher, b))
	end(t, r.Push(pusher, b))
	spoil(end(t, r.Pop(popper)).Batch())
	popped(t, r, 5)
}

// P11.1: what is popped isn't kept in the memory.
func TestBoxesAreEmptyAgain(t *testing.T) {
	m, r := made(t, 4)
	fill(t, r, 3, 4)
	for n := range 4 {
		popped(t, r, n)
	}
	for box := range 4 {
		if len(m.Get(0, box)) != 0 {
			t.Errorf("box %d", box)
		}
	}
}

// P11.1: Batches of nothing wait like others, and great ones.
func TestAnyBatch(t *testing.T) {
	var great batch.Batch
	for port := range 64 {
		for time := range uint64(40) {
			great = append(great, batch.Change{Port: port, Time: time, Diff: api.MaxCount})
		}
	}
	_, r := made(t, 4)
	l := []batch.Batch{nil, great, {}, {{Port: 0, Time: api.Never - 1, Diff: -api.MaxCount}}}
	for _, b := range l {
		if !end(t, r.Push(0, b)).Ok() {
			t.Fatal("Push")
		}
	}
	for _, b := range l {
		if a := end(t, r.Pop(1)); !a.Ok() || !batch.Same(a.Batch(), b) {
			t.Fatal("Pop")
		}
	}
	popped(t, r, -1)
}

// P5: what is popped hangs on no size, if whoever finds it full tries again.
func TestSizeTellsNothing(t *testing.T) {
	for _, size := range sizes {
		d := dice(7)
		m, r := made(t, size)
		var got []batch.Batch
		next := 0
		var push, pop *ring.Act
		for len(got) < 200 {
			if d.roll(2) == 0 {
				if push == nil {
					push = r.Push(pusher, numbered(next))
				}
				if push.Step() {
					if push.Ok() {
						next++
					}
					push = nil
				}
				continue
			}
			if pop == nil {
				pop = r.Pop(popper)
			}
			if pop.Step() {
				if pop.Ok() {
					got = append(got, pop.Batch())
				}
				pop = nil
			}
		}
		for n, b := range got {
			if !batch.Same(b, numbered(n)) {
				t.Fatalf("of size %d: %d is %v", size, n, b)
			}
		}
		apart(t, m)
	}
}

// P1: words and boxes that there aren't: all ends.
func TestWordsAndBoxesThatThereArent(t *testing.T) {
	for _, c := range []struct{ words, boxes, word, box int }{
		{0, 0, 0, 0}, {1, 4, 0, 0}, {2, 0, 0, 0}, {2, 1, 0, 0}, {2, 4, 0, 1}, {2, 4, 1, 0}, {2, 4, 2, 0}, {2, 4, 0, 4},
		{2, 4, math.MaxInt, 0}, {2, 4, 0, math.MaxInt}, {2, 4, math.MaxInt - 1, math.MaxInt - 2}, {2, 4, math.MaxInt, math.MaxInt},
		{0, 4, 0, 0}, {65536, 65536, 65535, 65533}, {65536, 65536, 65536, 65536},
	} {
		for _, size := range sizes {
			m, _ := mem.New(c.words, c.boxes, 0)
			r, e := ring.New(m, c.word, c.box, size)
			if e != api.OK {
				t.Fatalf("%v: %v", c, e)
			}
			for n := range 2*size + 2 {
				a := end(t, r.Push(pusher, numbered(n)))
				b := end(t, r.Pop(popper))
				a.Batch()
				b.Batch()
			}
			for n := range 2 * size {
				end(t, r.Push(pusher, numbered(n)))
			}
		}
	}
}

// P1, P5: one below 0 is nobody: his acts are over, and change nothing.
func TestNobody(t *testing.T) {
	for _, who := range []int{-1, -2, math.MinInt} {
		for _, many := range []int{0, 1, 2} {
			m, r := made(t, 2)
			fill(t, r, 1, many)
			time := m.Time()
			push, pop := end(t, r.Push(who, numbered(9))), end(t, r.Pop(who))
			if push.Ok() || pop.Ok() || len(pop.Batch()) != 0 || !push.Over() || !pop.Over() || m.Time() != time {
				t.Fatalf("of %d: %v, %v", who, push.Ok(), pop.Ok())
			}
			for n := many; n < 2; n++ {
				if !pushed(t, r, n) {
					t.Fatal("there is room")
				}
			}
			for n := range 2 {
				popped(t, r, n)
			}
			popped(t, r, -1)
		}
	}
	// Any other one is somebody.
	_, r := made(t, 1)
	if !end(t, r.Push(math.MaxInt, numbered(1))).Ok() || !end(t, r.Pop(math.MaxInt)).Ok() {
		t.Error("the greatest who")
	}
}

// P1: words and boxes that weren't as they should be at first.
func TestWordsThatArent0(t *testing.T) {
	d := dice(3)
	some := []uint64{0, 1, 2, 5, 63, 64, 1 << 32, 1 << 63, math.MaxUint64 - 1, math.MaxUint64}
	for range 500 {
		size := sizes[d.roll(len(sizes))]
		m, r := made(t, size)
		m.Store(0, 0, some[d.roll(len(some))])
		m.Store(0, 1, some[d.roll(len(some))])
		for range 2 * size {
			end(t, r.Push(pusher, numbered(1)))
			end(t, r.Pop(popper))
		}
	}
	// Where the words go round all that a word tells it is a queue like before.
	for _, size := range sizes {
		m, r := made(t, size)
		m.Store(0, 0, math.MaxUint64-1)
		m.Store(0, 1, math.MaxUint64-1)
		for range 2 {
			for n := range size {
				if !pushed(t, r, n) {
					t.Fatal(size)
				}
			}
			if pushed(t, r, 99) {
				t.Fatal(size)
			}
			for n := range size {
				popped(t, r, n)
			}
			popped(t, r, -1)
		}
	}
}
