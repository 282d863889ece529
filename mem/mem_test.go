package mem_test

import (
	"math"
	"slices"
	"testing"

	"marchland/api"
	"marchland/batch"
	"marchland/mem"
)

type event = mem.Event

// dice is a row of numbers that is the same each time.
type dice uint64

func (d *dice) roll(n int) int {
	*d = *d*6364136223846793005 + 1442695040888963407
	return int(uint64(*d)>>33) % n
}

func pick[T any](d *dice, l []T) T { return l[d.roll(len(l))] }

// made is a Mem that may be.
func made(t *testing.T, words, boxes, latches int) *mem.Mem {
	t.Helper()
	m, e := mem.New(words, boxes, latches)
	if e != api.OK || m == nil {
		t.Fatalf("New(%d, %d, %d): %v", words, boxes, latches, e)
	}
	if m.Time() != 0 || len(m.Log()) != 0 {
		t.Fatalf("New(%d, %d, %d): there is something in its Log", words, boxes, latches)
	}
	return m
}

// one is a Batch of one Change.
func one(port int, time uint64, diff int64) batch.Batch {
	return batch.Batch{{Port: port, Time: time, Diff: diff}}
}

// spoil overwrites a list, its spare room too.
func spoil[T any](l []T, by T) {
	l = l[:cap(l)]
	for i := range l {
		l[i] = by
	}
}

// answer is what an access tells: of a kind that tells less the rest is zero.
type answer struct {
	word uint64
	box  string
	n    int
	ok   bool
}

// text is a Batch that compares by ==.
func text(b batch.Batch) string {
	s := ""
	for _, c := range b {
		s += string(rune('a'+c.Port)) + string(rune('a'+c.Time%20)) + string(rune('a'+c.Diff)) + " "
	}
	return s
}

// access makes one of a kind; v is what a Store or a Set writes.
func access(m *mem.Mem, who, kind, at int, v int) answer {
	switch kind {
	case mem.Load:
		return answer{word: m.Load(who, at)}
	case mem.Store:
		m.Store(who, at, uint64(v))
	case mem.Get:
		return answer{box: text(m.Get(who, at))}
	case mem.Set:
		m.Set(who, at, one(v%5, uint64(v), 1))
	case mem.Take:
		return answer{ok: m.Take(who, at)}
	case mem.Free:
		return answer{ok: m.Free(who, at)}
	case mem.Sleep:
		return answer{ok: m.Sleep(who, at)}
	case mem.Wake:
		return answer{n: m.Wake(who, at)}
	}
	return answer{}
}

// log holds what accesses there were against what there should be.
func log(t *testing.T, m *mem.Mem, want ...event) {
	t.Helper()
	if got := m.Log(); !slices.Equal(got, want) || m.Time() != len(want) {
		t.Errorf("Log %v, Time %d, want %v", got, m.Time(), want)
	}
}

// P8.1: the document's example.
func TestExample(t *testing.T) {
	m := made(t, 0, 0, 1)
	if !m.Take(0, 0) || m.Take(1, 0) || !m.Sleep(0, 0) || !m.Take(1, 0) || m.Wake(1, 0) != 1 {
		t.Error("answers")
	}
	log(t, m, event{0, mem.Take, 0, true}, event{1, mem.Take, 0, false}, event{0, mem.Sleep, 0, true}, event{1, mem.Take, 0, true}, event{1, mem.Wake, 0, true})
}

// P8.1
func TestKindsAreNumbered(t *testing.T) {
	if got := []int{mem.Load, mem.Store, mem.Get, mem.Set, mem.Take, mem.Free, mem.Sleep, mem.Wake}; !slices.Equal(got, []int{0, 1, 2, 3, 4, 5, 6, 7}) {
		t.Error(got)
	}
}

// P8.1
func TestNew(t *testing.T) {
	made(t, 0, 0, 0)
	made(t, 65536, 65536, 65536)
	made(t, 1, 2, 3)
	for _, n := range []int{math.MinInt, -65536, -1, 65537, 65536 * 2, 1 << 32, math.MaxInt} {
		for _, c := range [][3]int{{n, 1, 1}, {1, n, 1}, {1, 1, n}, {n, 0, 0}, {0, n, 0}, {0, 0, n}, {n, n, n}, {n, n, 65536}, {n, -1, n}} {
			if m, e := mem.New(c[0], c[1], c[2]); m != nil || e != api.ErrArg {
				t.Errorf("New%v: %v, %v", c, m, e)
			}
		}
	}
}

// P8.1: there are so many of each kind, and not one more.
func TestThereAreSoMany(t *testing.T) {
	for _, n := range []int{0, 1, 2, 7, 65536} {
		for kind := mem.Load; kind <= mem.Wake; kind++ {
			// Of the other kinds there are others: their number has nothing to do with it.
			sizes := []int{3, 3, 3}
			sizes[min(kind/2, 2)] = n
			m := made(t, sizes[0], sizes[1], sizes[2])
			for _, at := range []int{math.MinInt, -65536, -1, n, n + 1, n + 65536, math.MaxInt} {
				if got := access(m, 0, kind, at, 9); got != (answer{}) {
					t.Errorf("kind %d at %d of %d: %v", kind, at, n, got)
				}
				if m.Holder(at) != -1 && kind >= mem.Take {
					t.Errorf("Holder of %d of %d", at, n)
				}
			}
			log(t, m)
			if n == 0 {
				continue
			}
			access(m, 0, kind, 0, 9)
			access(m, 0, kind, n-1, 9)
			if l := m.Log(); len(l) != 2 || l[0].At != 0 || l[1].At != n-1 || l[0].Kind != kind || l[1].Kind != kind {
				t.Errorf("kind %d of %d: %v", kind, n, l)
			}
		}
	}
}

// P8.1
func TestWords(t *testing.T) {
	m := made(t, 3, 1, 1)
	for w := range 3 {
		if got := m.Load(5, w); got != 0 {
			t.Errorf("word %d is %d at first", w, got)
		}
	}
	m.Store(0, 1, 7)
	m.Store(math.MaxInt, 2, math.MaxUint64)
	if m.Load(0, 0) != 0 || m.Load(0, 1) != 7 || m.Load(0, 2) != math.MaxUint64 || m.Load(9, 1) != 7 {
		t.Error("words are what was stored, whoever loads them")
	}
	m.Store(1, 1, 1<<63)
	m.Store(2, 1, 0)
	if m.Load(0, 1) != 0 || m.Load(0, 2) != math.MaxUint64 {
		t.Error("the last Store counts")
	}
	log(t, m,
		event{5, mem.Load, 0, true}, event{5, mem.Load, 1, true}, event{5, mem.Load, 2, true},
		event{0, mem.Store, 1, true}, event{math.MaxInt, mem.Store, 2, true},
		event{0, mem.Load, 0, true}, event{0, mem.Load, 1, true}, event{0, mem.Load, 2, true}, event{9, mem.Load, 1, true},
		event{1, mem.Store, 1, true}, event{2, mem.Store, 1, true}, event{0, mem.Load, 1, true}, event{0, mem.Load, 2, true})
}

// P8.1
func TestBoxes(t *testing.T) {
	m := made(t, 1, 2, 1)
	if len(m.Get(0, 0)) != 0 || len(m.Get(0, 1)) != 0 {
		t.Error("boxes are empty at first")
	}
	many := batch.Batch{{Port: 0, Time: 3, Diff: 1}, {Port: 1, Time: 0, Diff: -4}, {Port: 63, Time: api.Never - 1, Diff: api.MaxCount}}
	m.Set(1, 1, many)
	if !batch.Same(m.Get(0, 1), many) || len(m.Get(0, 0)) != 0 || !batch.Same(m.Get(7, 1), many) {
		t.Error("a box has what was set, whoever gets it, as often as it is got")
	}
	m.Set(1, 0, one(1, 2, 3))
	m.Set(2, 1, one(4, 5, 6))
	if !batch.Same(m.Get(0, 0), one(1, 2, 3)) || !batch.Same(m.Get(0, 1), one(4, 5, 6)) {
		t.Error("the last Set counts")
	}
	m.Set(0, 0, nil)
	m.Set(0, 1, batch.Batch{})
	if len(m.Get(0, 0)) != 0 || len(m.Get(0, 1)) != 0 {
		t.Error("they are empty again")
	}
	log(t, m,
		event{0, mem.Get, 0, true}, event{0, mem.Get, 1, true}, event{1, mem.Set, 1, true},
		event{0, mem.Get, 1, true}, event{0, mem.Get, 0, true}, event{7, mem.Get, 1, true},
		event{1, mem.Set, 0, true}, event{2, mem.Set, 1, true}, event{0, mem.Get, 0, true}, event{0, mem.Get, 1, true},
		event{0, mem.Set, 0, true}, event{0, mem.Set, 1, true}, event{0, mem.Get, 0, true}, event{0, mem.Get, 1, true})
}

// P8.1: a word, a box and a latch of one number are three things.
func TestKindsOfThingsAreApart(t *testing.T) {
	m := made(t, 1, 1, 1)
	m.Store(0, 0, 5)
	m.Set(1, 0, one(1, 1, 1))
	if !m.Take(2, 0) || m.Load(3, 0) != 5 || !batch.Same(m.Get(3, 0), one(1, 1, 1)) || m.Holder(0) != 2 {
		t.Error(m.Log())
	}
	// A latch keeps nobody from a word, or from a box.
	m.Store(3, 0, 6)
	m.Set(3, 0, nil)
	if m.Load(2, 0) != 6 || len(m.Get(2, 0)) != 0 {
		t.Error(m.Log())
	}
}

// P8.1
func TestLatches(t *testing.T) {
	m := made(t, 0, 0, 2)
	held := func(want0, want1 int) {
		t.Helper()
		if m.Holder(0) != want0 || m.Holder(1) != want1 {
			t.Errorf("held by %d and %d, want %d and %d", m.Holder(0), m.Holder(1), want0, want1)
		}
	}
	say := func(got, want bool) {
		t.Helper()
		if got != want {
			t.Errorf("%v, want %v: %v", got, want, m.Log())
		}
	}
	held(-1, -1)
	say(m.Free(0, 0), false) // nobody's
	say(m.Take(0, 0), true)
	held(0, -1)
	say(m.Take(0, 0), false) // it was his already, not nobody's
	say(m.Take(5, 0), false)
	say(m.Free(5, 0), false)
	held(0, -1)
	say(m.Take(5, 1), true)
	say(m.Free(0, 1), false)
	held(0, 5)
	say(m.Free(0, 0), true)
	say(m.Free(0, 0), false)
	held(-1, 5)
	say(m.Take(5, 0), true) // one may have several
	held(5, 5)
	say(m.Free(5, 1), true)
	say(m.Free(5, 0), true)
	say(m.Take(math.MaxInt, 0), true)
	held(math.MaxInt, -1)
	log(t, m,
		event{0, mem.Free, 0, false}, event{0, mem.Take, 0, true}, event{0, mem.Take, 0, false}, event{5, mem.Take, 0, false}, event{5, mem.Free, 0, false},
		event{5, mem.Take, 1, true}, event{0, mem.Free, 1, false}, event{0, mem.Free, 0, true}, event{0, mem.Free, 0, false},
		event{5, mem.Take, 0, true}, event{5, mem.Free, 1, true}, event{5, mem.Free, 0, true}, event{math.MaxInt, mem.Take, 0, true})
}

// P8.1: Sleep by one whose it isn't frees nothing, and nobody sleeps.
func TestSleepByAnother(t *testing.T) {
	m := made(t, 0, 0, 2)
	if m.Sleep(0, 0) || m.Asleep(0) {
		t.Error("nobody's")
	}
	if !m.Take(1, 0) || m.Sleep(0, 0) || m.Asleep(0) || m.Asleep(1) || m.Holder(0) != 1 {
		t.Error("another one's")
	}
	if m.Sleep(1, 1) || m.Asleep(1) || m.Holder(0) != 1 {
		t.Error("another latch is his")
	}
	if m.Wake(1, 0) != 0 {
		t.Error("nobody slept")
	}
	log(t, m, event{0, mem.Sleep, 0, false}, event{1, mem.Take, 0, true}, event{0, mem.Sleep, 0, false}, event{1, mem.Sleep, 1, false}, event{1, mem.Wake, 0, true})
}

// asleep makes some sleep by a latch, one behind the other.
func asleep(t *testing.T, m *mem.Mem, l int, whos ...int) {
	t.Helper()
	for _, who := range whos {
		if !m.Take(who, l) || !m.Sleep(who, l) || !m.Asleep(who) || m.Holder(l) != -1 {
			t.Fatalf("%d doesn't sleep by %d: %v", who, l, m.Log())
		}
	}
}

// P8.1: none, one or several are woken, those alone who sleep by that latch, by him alone whose it is.
func TestWake(t *testing.T) {
	m := made(t, 0, 0, 2)
	asleep(t, m, 0, 1, 7, 3)
	asleep(t, m, 1, 4)
	if m.Wake(0, 0) != 0 || !m.Asleep(1) {
		t.Error("it is nobody's")
	}
	if !m.Take(0, 0) || m.Wake(2, 0) != 0 || m.Wake(0, 1) != 0 || !m.Asleep(7) || !m.Asleep(4) {
		t.Error("it isn't his")
	}
	before := m.Time()
	if m.Wake(0, 0) != 3 || m.Asleep(1) || m.Asleep(7) || m.Asleep(3) || !m.Asleep(4) || m.Holder(0) != 0 {
		t.Error("three are woken, and the latch is his yet")
	}
	if m.Wake(0, 0) != 0 || m.Wake(0, 1) != 0 || !m.Asleep(4) {
		t.Error("nobody sleeps there any more")
	}
	if got := m.Log()[before:]; !slices.Equal(got, []event{{0, mem.Wake, 0, true}, {0, mem.Wake, 0, true}, {0, mem.Wake, 1, false}}) {
		t.Error(got)
	}
	// Who was woken has nothing: he takes the latch again, when it is free.
	if m.Take(1, 0) || !m.Free(0, 0) || !m.Take(7, 0) || m.Take(1, 0) {
		t.Error(m.Log())
	}
	if !m.Take(1, 1) || m.Wake(1, 1) != 1 || m.Asleep(4) {
		t.Error(m.Log())
	}
}

// P8.1: who slept by one latch, and sleeps by another one then, isn't woken by the first.
func TestSleepAgain(t *testing.T) {
	m := made(t, 0, 0, 2)
	asleep(t, m, 0, 1)
	m.Take(0, 0)
	m.Take(0, 1)
	if m.Wake(0, 0) != 1 || !m.Free(0, 1) {
		t.Error(m.Log())
	}
	asleep(t, m, 1, 1)
	if m.Wake(0, 0) != 0 || !m.Asleep(1) || !m.Take(0, 1) || m.Wake(0, 1) != 1 || m.Asleep(1) {
		t.Error(m.Log())
	}
	if !m.Free(0, 0) {
		t.Error(m.Log())
	}
	asleep(t, m, 0, 1, 2)
	m.Take(0, 0)
	if m.Wake(0, 0) != 2 || m.Asleep(1) || m.Asleep(2) {
		t.Error(m.Log())
	}
}

// P8.2: what else a sleeper has stays his.
func TestSleeperKeepsOtherLatches(t *testing.T) {
	m := made(t, 0, 0, 2)
	m.Take(3, 1)
	asleep(t, m, 0, 3)
	if m.Holder(1) != 3 || m.Take(4, 1) || m.Free(4, 1) || m.Free(3, 1) || m.Holder(1) != 3 {
		t.Error(m.Log())
	}
	if !m.Take(4, 0) || m.Wake(4, 0) != 1 || !m.Free(3, 1) {
		t.Error(m.Log())
	}
}

// P8.1, P8.2, P5: by a who below 0, or by one who sleeps, there is no access, of any kind: it changes nothing.
func TestNobodysAccesses(t *testing.T) {
	for _, who := range []int{-1, -2, math.MinInt, 6, math.MaxInt} {
		m := made(t, 2, 2, 3)
		m.Store(0, 1, 8)
		m.Set(0, 1, one(1, 5, 2))
		asleep(t, m, 2, 9)
		if who >= 0 {
			// The latch that he has goes on to be his.
			m.Take(who, 1)
			asleep(t, m, 2, who)
		}
		want := m.Log()
		for kind := mem.Load; kind <= mem.Wake; kind++ {
			for at := -1; at < 4; at++ {
				if got := access(m, who, kind, at, 3); got != (answer{}) {
					t.Errorf("who %d, kind %d at %d: %v", who, kind, at, got)
				}
			}
		}
		log(t, m, want...)
		if m.Asleep(who) != (who >= 0) || !m.Asleep(9) || m.Holder(0) != -1 || m.Holder(1) != max(who, -1) || m.Holder(2) != -1 {
			t.Errorf("who %d: something is changed", who)
		}
		if m.Load(0, 0) != 0 || m.Load(0, 1) != 8 || len(m.Get(0, 0)) != 0 || !batch.Same(m.Get(0, 1), one(1, 5, 2)) {
			t.Errorf("who %d: something is changed", who)
		}
	}
}

// P5: an access to what there isn't changes nothing.
func TestNoSuchThing(t *testing.T) {
	m := made(t, 2, 2, 2)
	m.Store(0, 0, 8)
	m.Set(0, 1, one(1, 5, 2))
	m.Take(0, 1)
	want := m.Log()
	for kind := mem.Load; kind <= mem.Wake; kind++ {
		for _, at := range []int{math.MinInt, -1, 2, 3, 65536, math.MaxInt} {
			if got := access(m, 0, kind, at, 3); got != (answer{}) {
				t.Errorf("kind %d at %d: %v", kind, at, got)
			}
		}
	}
	log(t, m, want...)
	if m.Load(0, 0) != 8 || m.Load(0, 1) != 0 || len(m.Get(0, 0)) != 0 || !batch.Same(m.Get(0, 1), one(1, 5, 2)) || m.Holder(0) != -1 || m.Holder(1) != 0 || m.Asleep(0) {
		t.Error("something is changed")
	}
}

// P8.1: Asleep and Holder, Time and Log aren't accesses.
func TestAskingIsNoAccess(t *testing.T) {
	m := made(t, 1, 1, 1)
	m.Take(4, 0)
	for range 3 {
		for _, n := range []int{math.MinInt, -1, 0, 1, 4, math.MaxInt} {
			if want := map[bool]int{true: 4, false: -1}[n == 0]; m.Holder(n) != want {
				t.Errorf("Holder of %d: %d", n, m.Holder(n))
			}
			if m.Asleep(n) {
				t.Errorf("%d sleeps", n)
			}
		}
		log(t, m, event{4, mem.Take, 0, true})
	}
}

// P8.1
func TestNilMem(t *testing.T) {
	for _, m := range []*mem.Mem{nil, new(mem.Mem)} {
		for kind := mem.Load; kind <= mem.Wake; kind++ {
			for _, who := range []int{-1, 0, 5} {
				for _, at := range []int{-1, 0, 5} {
					if got := access(m, who, kind, at, 3); got != (answer{}) {
						t.Errorf("kind %d: %v", kind, got)
					}
				}
			}
		}
		log(t, m)
		if m.Asleep(0) || m.Asleep(-1) || m.Holder(0) != -1 || m.Holder(-1) != -1 {
			t.Error("there is nobody, and no latch")
		}
	}
}

// plain is a memory by the document's words: who sleeps by what, and whose is what, by maps.
type plain struct {
	sizes  [3]int
	words  map[int]uint64
	boxes  map[int]string
	holder map[int]int
	sleeps map[int]int
	log    []event
}

func (p *plain) access(who, kind, at, v int) answer {
	_, sleeps := p.sleeps[who]
	if who < 0 || sleeps || at < 0 || at >= p.sizes[[]int{0, 0, 1, 1, 2, 2, 2, 2}[kind]] {
		return answer{}
	}
	holder, taken := p.holder[at]
	ok := kind < mem.Take || kind == mem.Take && !taken || kind > mem.Take && taken && holder == who
	p.log = append(p.log, event{who, kind, at, ok})
	switch {
	case kind == mem.Load:
		return answer{word: p.words[at]}
	case kind == mem.Store:
		p.words[at] = uint64(v)
	case kind == mem.Get:
		return answer{box: p.boxes[at]}
	case kind == mem.Set:
		p.boxes[at] = text(one(v%5, uint64(v), 1))
	case !ok:
	case kind == mem.Take:
		p.holder[at] = who
	case kind == mem.Wake:
		n := 0
		for sleeper, l := range p.sleeps {
			if l == at {
				n++
				delete(p.sleeps, sleeper)
			}
		}
		return answer{n: n}
	default:
		delete(p.holder, at)
		if kind == mem.Sleep {
			p.sleeps[who] = at
		}
	}
	return answer{ok: ok && kind >= mem.Take}
}

// run makes accesses by dice to both, and holds each answer against the other one.
func run(t *testing.T, d *dice, count int) (*mem.Mem, *plain) {
	t.Helper()
	sizes := [3]int{d.roll(4), d.roll(4), d.roll(4)}
	m := made(t, sizes[0], sizes[1], sizes[2])
	p := &plain{sizes: sizes, words: map[int]uint64{}, boxes: map[int]string{}, holder: map[int]int{}, sleeps: map[int]int{}}
	whos := 1 + d.roll(5)
	for i := range count {
		who, kind, at, v := d.roll(whos+1), d.roll(8), d.roll(5)-1, d.roll(100)
		if who == whos {
			who = pick(d, []int{-1, math.MinInt, math.MaxInt, 1 << 40})
		}
		if got, want := access(m, who, kind, at, v), p.access(who, kind, at, v); got != want {
			t.Fatalf("access %d: who %d, kind %d at %d: %v, want %v", i, who, kind, at, got, want)
		}
		if m.Time() != len(p.log) {
			t.Fatalf("Time %d, want %d", m.Time(), len(p.log))
		}
		for who := range whos {
			if _, sleeps := p.sleeps[who]; m.Asleep(who) != sleeps {
				t.Fatalf("Asleep of %d: %v", who, m.Asleep(who))
			}
		}
		for l := -1; l < 5; l++ {
			holder, taken := p.holder[l]
			if !taken {
				holder = -1
			}
			if m.Holder(l) != holder {
				t.Fatalf("Holder of %d: %d, want %d", l, m.Holder(l), holder)
			}
		}
	}
	return m, p
}

// P8.1, P5
func TestAgainstPlainWords(t *testing.T) {
	d := dice(1)
	ended := map[event]int{}
	for range 400 {
		m, p := run(t, &d, 200)
		log(t, m, p.log...)
		for _, e := range p.log {
			ended[event{Kind: e.Kind, Ok: e.Ok}]++
		}
	}
	if len(ended) != 12 {
		t.Errorf("not all of it was asked: %v", ended)
	}
	for e, n := range ended {
		if n < 50 {
			t.Errorf("%v was %d times", e, n)
		}
	}
}

// P8.2: by the Log alone: a latch is one's at most, and who sleeps does nothing till somebody wakes him who has it.
func TestLatchIsOnesAtMost(t *testing.T) {
	d := dice(2)
	for range 300 {
		m, _ := run(t, &d, 300)
		holder, sleeps := map[int]int{}, map[int]int{}
		for i, e := range m.Log() {
			if _, asleep := sleeps[e.Who]; asleep {
				t.Fatalf("%d does something in its sleep: %v", e.Who, e)
			}
			who, taken := holder[e.At]
			switch {
			case e.Kind == mem.Take && e.Ok == taken, e.Kind > mem.Take && e.Ok != (taken && who == e.Who):
				t.Fatalf("Event %d: %v of a latch of %d, %v", i, e, who, taken)
			case e.Kind < mem.Take || !e.Ok:
			case e.Kind == mem.Take:
				holder[e.At] = e.Who
			case e.Kind == mem.Wake:
				for sleeper, l := range sleeps {
					if l == e.At {
						delete(sleeps, sleeper)
					}
				}
			default:
				delete(holder, e.At)
				if e.Kind == mem.Sleep {
					sleeps[e.Who] = e.At
				}
			}
		}
	}
}

// P8.3
func TestBoxesKeepNothing(t *testing.T) {
	m := made(t, 0, 2, 0)
	mine := batch.Batch{{Port: 1, Time: 2, Diff: 3}, {Port: 1, Time: 4, Diff: 5}}
	full := append(slices.Clone(mine), batch.Change{Port: 11, Diff: 11}, batch.Change{Port: 12, Diff: 12})
	kept := slices.Clone(full)
	given := full[:2]
	m.Set(0, 0, given)
	m.Set(0, 1, given)
	got, again, other := m.Get(0, 0), m.Get(0, 0), m.Get(1, 1)
	if !slices.Equal(full, kept) {
		t.Error("what was handed in is changed")
	}
	spoil(full, batch.Change{Port: 44})
	if !batch.Same(got, mine) || !batch.Same(again, mine) || !batch.Same(other, mine) || !batch.Same(m.Get(0, 0), mine) {
		t.Error("a box shares with what was handed in")
	}
	spoil(got, batch.Change{Port: 55})
	if !batch.Same(again, mine) || !batch.Same(other, mine) || !batch.Same(m.Get(0, 0), mine) || !batch.Same(m.Get(0, 1), mine) {
		t.Error("an answer shares with a box, or with another answer")
	}
	// What comes out of one box, and goes into another one, is two things.
	m.Set(0, 1, m.Get(0, 0))
	spoil(m.Get(0, 1), batch.Change{Port: 66})
	m.Set(0, 0, nil)
	if !batch.Same(m.Get(0, 1), mine) {
		t.Error("two boxes share")
	}
}

// P8.3
func TestLogIsNewMemory(t *testing.T) {
	m := made(t, 1, 0, 0)
	for range 5 {
		m.Load(3, 0)
	}
	early, again := m.Log(), m.Log()
	spoil(early, event{9, 9, 9, false})
	m.Store(4, 0, 1)
	five := slices.Repeat([]event{{3, mem.Load, 0, true}}, 5)
	if !slices.Equal(again, five) {
		t.Error("two Logs share")
	}
	log(t, m, append(five, event{4, mem.Store, 0, true})...)
}

// P1, P8.1: many accesses, many who sleep by one latch.
func TestMany(t *testing.T) {
	m := made(t, 1, 0, 1)
	for who := range 100000 {
		asleep(t, m, 0, who)
	}
	m.Take(100000, 0)
	if m.Wake(100000, 0) != 100000 || m.Asleep(0) || m.Asleep(99999) || m.Time() != 200002 || len(m.Log()) != 200002 {
		t.Error(m.Time())
	}
}

// Two Mems have nothing to do with each other.
func TestMemsAreApart(t *testing.T) {
	a, b := made(t, 1, 1, 1), made(t, 1, 1, 1)
	a.Store(0, 0, 5)
	a.Set(0, 0, one(1, 1, 1))
	asleep(t, a, 0, 2)
	a.Take(0, 0)
	if b.Time() != 0 || b.Asleep(2) || b.Holder(0) != -1 || b.Load(2, 0) != 0 || len(b.Get(2, 0)) != 0 {
		t.Error(b.Log())
	}
}

// Events compare by ==.
func TestEventsCompare(t *testing.T) {
	if a, b := (event{1, 2, 3, true}), (event{1, 2, 3, true}); a != b || a == (event{0, 2, 3, true}) || a == (event{1, 0, 3, true}) || a == (event{1, 2, 0, true}) || a == (event{1, 2, 3, false}) {
		t.Error(a, b)
	}
}
