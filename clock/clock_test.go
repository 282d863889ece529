package clock_test

import (
	"math"
	"slices"
	"testing"

	"marchland/api"
	"marchland/batch"
	"marchland/clock"
	"marchland/mem"
)

type event = mem.Event

// dice is a row of numbers that is the same each time.
type dice uint64

func (d *dice) roll(n int) int {
	*d = *d*6364136223846793005 + 1442695040888963407
	return int(uint64(*d)>>33) % n
}

func pick[T any](d *dice, l []T) T { return l[d.roll(len(l))] }

// ev is an Event that is Ok, in short; not is one that isn't.
func ev(who, kind, at int) event { return event{Who: who, Kind: kind, At: at, Ok: true} }

func not(who, kind, at int) event { return event{Who: who, Kind: kind, At: at} }

// before holds what happens before what against the places that are named: j behind each i, of others nothing.
func before(t *testing.T, name string, l []event, want ...[2]int) {
	t.Helper()
	for i := -1; i <= len(l); i++ {
		for j := -1; j <= len(l); j++ {
			if got := clock.Before(l, i, j); got != slices.Contains(want, [2]int{i, j}) {
				t.Errorf("%s: Before(%d, %d) = %v of %v", name, i, j, got, l)
			}
		}
	}
}

func race(t *testing.T, name string, l []event, wantI, wantJ int) {
	t.Helper()
	if i, j := clock.Race(l); i != wantI || j != wantJ {
		t.Errorf("%s: Race of %v (and so on): %d, %d, want %d, %d", name, l[:min(len(l), 30)], i, j, wantI, wantJ)
	}
}

// P9.1: the document's examples, of the chapter and of the whole.
func TestExample(t *testing.T) {
	l := []event{ev(0, mem.Set, 0), ev(0, mem.Store, 0), ev(1, mem.Load, 0), ev(1, mem.Get, 0)}
	race(t, "handed on", l, -1, -1)
	before(t, "handed on", l, [2]int{0, 1}, [2]int{0, 2}, [2]int{0, 3}, [2]int{1, 2}, [2]int{1, 3}, [2]int{2, 3})
	l = slices.Delete(l, 2, 3)
	race(t, "without the Load", l, 0, 2)
	before(t, "without the Load", l, [2]int{0, 1})
	race(t, "nothing between", []event{ev(0, mem.Set, 0), ev(1, mem.Get, 0)}, 0, 1)
}

// P9.1
func TestOfOneWho(t *testing.T) {
	for kind := mem.Load; kind <= mem.Wake; kind++ {
		for other := mem.Load; other <= mem.Wake; other++ {
			before(t, "one", []event{not(7, kind, 3), ev(7, other, 4)}, [2]int{0, 1})
			before(t, "between", []event{ev(7, kind, 3), ev(8, other, 5), not(7, other, 4)}, [2]int{0, 2})
			before(t, "two", []event{ev(7, kind, 3), ev(8, other, 4)})
		}
	}
	before(t, "nothing", nil)
	before(t, "alone", []event{ev(0, mem.Store, 0)})
}

// P9.1
func TestByWords(t *testing.T) {
	store, load := ev(0, mem.Store, 5), ev(1, mem.Load, 5)
	before(t, "handed on", []event{store, load}, [2]int{0, 1})
	before(t, "each later Load", []event{store, load, ev(2, mem.Load, 5), ev(3, mem.Load, 5)}, [2]int{0, 1}, [2]int{0, 2}, [2]int{0, 3})
	before(t, "the Load is ahead", []event{load, store})
	before(t, "another word", []event{store, ev(1, mem.Load, 6)})
	before(t, "two Stores", []event{store, ev(1, mem.Store, 5)})
	before(t, "two Loads", []event{ev(0, mem.Load, 5), load})
	before(t, "a Store between", []event{store, ev(2, mem.Store, 5), load}, [2]int{1, 2})
	before(t, "a Store of another word between", []event{store, ev(2, mem.Store, 6), load}, [2]int{0, 2})
	before(t, "a Store behind", []event{store, load, ev(2, mem.Store, 5), ev(3, mem.Load, 5)}, [2]int{0, 1}, [2]int{2, 3})
	before(t, "a Store of his own between", []event{store, store, load}, [2]int{0, 1}, [2]int{0, 2}, [2]int{1, 2})
	before(t, "a Store of the other's between", []event{store, ev(1, mem.Store, 5), load}, [2]int{1, 2})
	before(t, "a Store between that knows of it", []event{store, ev(2, mem.Load, 5), ev(2, mem.Store, 5), load},
		[2]int{0, 1}, [2]int{0, 2}, [2]int{0, 3}, [2]int{1, 2}, [2]int{1, 3}, [2]int{2, 3})
	// Ok is asked of a Free, a Sleep and a Take alone.
	before(t, "neither is Ok", []event{not(0, mem.Store, 5), not(1, mem.Load, 5)}, [2]int{0, 1})
	before(t, "a Store between that isn't Ok", []event{store, not(2, mem.Store, 5), load}, [2]int{1, 2})
}

// P9.1
func TestByLatches(t *testing.T) {
	free, sleep, take := ev(0, mem.Free, 5), ev(0, mem.Sleep, 5), ev(1, mem.Take, 5)
	for _, gives := range []event{free, sleep} {
		no := gives
		no.Ok = false
		before(t, "handed on", []event{gives, take}, [2]int{0, 1})
		before(t, "the Take is ahead", []event{take, gives})
		before(t, "another latch", []event{gives, ev(1, mem.Take, 6)})
		before(t, "it isn't Ok", []event{no, take})
		before(t, "the Take isn't", []event{gives, not(1, mem.Take, 5)})
		before(t, "neither is", []event{no, not(1, mem.Take, 5)})
		before(t, "each later Take", []event{gives, take, ev(2, mem.Take, 5)}, [2]int{0, 1}, [2]int{0, 2})
		before(t, "one between that isn't Ok", []event{gives, not(2, mem.Take, 5), not(2, mem.Free, 5), take}, [2]int{0, 3}, [2]int{1, 2})
		// Of a latch it isn't the last one alone.
		before(t, "a Free between", []event{gives, ev(2, mem.Free, 5), take}, [2]int{0, 2}, [2]int{1, 2})
		before(t, "a Sleep between", []event{gives, ev(2, mem.Sleep, 5), take}, [2]int{0, 2}, [2]int{1, 2})
		before(t, "a Free between that isn't", []event{gives, not(2, mem.Free, 5), take}, [2]int{0, 2})
		before(t, "no Take", []event{gives, ev(1, mem.Free, 5), ev(2, mem.Sleep, 5), ev(3, mem.Wake, 5)})
	}
	before(t, "to take hands nothing on", []event{ev(0, mem.Take, 5), take})
	before(t, "to wake hands nothing on", []event{ev(0, mem.Wake, 5), take, ev(2, mem.Load, 5), ev(3, mem.Get, 5)})
	before(t, "who sleeps, and is woken", []event{ev(0, mem.Take, 0), ev(0, mem.Sleep, 0), ev(1, mem.Take, 0), ev(1, mem.Wake, 0), ev(0, mem.Load, 9), not(0, mem.Take, 0), ev(1, mem.Free, 0), ev(0, mem.Take, 0)},
		[2]int{0, 1}, [2]int{0, 2}, [2]int{0, 3}, [2]int{0, 4}, [2]int{0, 5}, [2]int{0, 6}, [2]int{0, 7},
		[2]int{1, 2}, [2]int{1, 3}, [2]int{1, 4}, [2]int{1, 5}, [2]int{1, 6}, [2]int{1, 7},
		[2]int{2, 3}, [2]int{2, 6}, [2]int{2, 7}, [2]int{3, 6}, [2]int{3, 7},
		[2]int{4, 5}, [2]int{4, 7}, [2]int{5, 7}, [2]int{6, 7})
}

// P9.1: a word, a box and a latch of one number are three things, and boxes hand nothing on.
func TestThingsAreApart(t *testing.T) {
	for _, gives := range []int{mem.Store, mem.Set, mem.Free, mem.Sleep} {
		for _, takes := range []int{mem.Load, mem.Get, mem.Take} {
			l := []event{ev(0, gives, 5), ev(1, takes, 5)}
			if gives == mem.Store && takes == mem.Load || gives >= mem.Free && takes == mem.Take {
				before(t, "handed on", l, [2]int{0, 1})
			} else {
				before(t, "nothing to do with each other", l)
			}
		}
	}
	race(t, "a word and a box", []event{ev(0, mem.Store, 5), ev(1, mem.Get, 5)}, -1, -1)
	race(t, "a latch and a box", []event{ev(0, mem.Set, 5), ev(1, mem.Take, 5), ev(1, mem.Wake, 5)}, -1, -1)
	// A Load of a word ahead of which just a latch, or a box, of its number was gone to.
	race(t, "no word between", []event{ev(0, mem.Set, 1), ev(0, mem.Free, 0), ev(1, mem.Load, 0), ev(1, mem.Get, 1)}, 0, 3)
}

// P9.1: numbers may be any.
func TestAnyNumbers(t *testing.T) {
	numbers := []int{math.MinInt, -5, -1, 0, 1, 65536, math.MaxInt}
	for _, at := range numbers {
		for i, who := range numbers {
			other := numbers[(i+1)%len(numbers)]
			l := []event{ev(who, mem.Set, at), ev(who, mem.Store, at), ev(other, mem.Load, at), ev(other, mem.Get, at)}
			race(t, "handed on", l, -1, -1)
			before(t, "handed on", l, [2]int{0, 1}, [2]int{0, 2}, [2]int{0, 3}, [2]int{1, 2}, [2]int{1, 3}, [2]int{2, 3})
			race(t, "not", []event{l[0], l[1], l[3]}, 0, 2)
		}
	}
}

// P9.1: Events of a Kind that there isn't are as if they were not there, but for the places of the others.
func TestKindsThatThereArent(t *testing.T) {
	for _, kind := range []int{math.MinInt, -1, 8, 9, math.MaxInt} {
		x := ev(0, kind, 0)
		before(t, "of one who", []event{x, x, ev(0, mem.Load, 0), x, ev(0, mem.Load, 0)}, [2]int{2, 4})
		before(t, "alone", []event{x, x})
		before(t, "between", []event{ev(0, mem.Store, 0), x, ev(2, kind, 0), ev(1, mem.Load, 0), x}, [2]int{0, 3})
		before(t, "at the ends", []event{x, ev(0, mem.Store, 0), ev(1, mem.Load, 0), ev(1, kind, 0)}, [2]int{1, 2})
		before(t, "in the midst of a way", []event{ev(0, mem.Get, 0), ev(1, kind, 0), ev(2, mem.Load, 0)})
		race(t, "no box", []event{x, ev(1, mem.Set, 0), x, ev(2, kind, 0)}, -1, -1)
		race(t, "places stay", []event{x, ev(1, mem.Set, 0), x, ev(2, mem.Get, 0), x}, 1, 3)
	}
}

// P9.1: places that there aren't, i equal to j, or greater.
func TestPlacesThatThereArent(t *testing.T) {
	l := []event{ev(0, mem.Store, 0), ev(0, mem.Store, 0), ev(0, mem.Store, 0)}
	for _, i := range []int{math.MinInt, -2, -1, 0, 1, 2, 3, 4, math.MaxInt} {
		for _, j := range []int{math.MinInt, -2, -1, 0, 1, 2, 3, 4, math.MaxInt} {
			if got := clock.Before(l, i, j); got != (i >= 0 && i < j && j < 3) {
				t.Errorf("Before(%d, %d) = %v", i, j, got)
			}
			if clock.Before(nil, i, j) || clock.Before([]event{}, i, j) {
				t.Errorf("Before(%d, %d) of nothing", i, j)
			}
		}
	}
}

// P9.1
func TestRace(t *testing.T) {
	for _, c := range []struct {
		name string
		l    []event
		i, j int
	}{
		{"nothing", nil, -1, -1},
		{"nothing", []event{}, -1, -1},
		{"one", []event{ev(0, mem.Set, 0)}, -1, -1},
		{"Get and Set", []event{ev(0, mem.Get, 0), ev(1, mem.Set, 0)}, 0, 1},
		{"Set and Get", []event{ev(0, mem.Set, 0), ev(1, mem.Get, 0)}, 0, 1},
		{"Set and Set", []event{ev(0, mem.Set, 0), ev(1, mem.Set, 0)}, 0, 1},
		{"Gets alone", []event{ev(0, mem.Get, 0), ev(1, mem.Get, 0), ev(2, mem.Get, 0), ev(0, mem.Get, 0)}, -1, -1},
		{"of one Who", []event{ev(4, mem.Set, 0), ev(4, mem.Get, 0), ev(4, mem.Set, 0), ev(4, mem.Set, 0)}, -1, -1},
		{"of two boxes", []event{ev(0, mem.Set, 0), ev(1, mem.Set, 1), ev(2, mem.Get, 2)}, -1, -1},
		{"words alone", []event{ev(0, mem.Store, 0), ev(1, mem.Store, 0), ev(2, mem.Load, 0)}, -1, -1},
		{"Ok isn't asked", []event{not(0, mem.Set, 0), not(1, mem.Get, 0)}, 0, 1},
		{"the first ones", []event{ev(0, mem.Set, 0), ev(1, mem.Set, 0), ev(2, mem.Set, 0), ev(3, mem.Set, 0)}, 0, 1},
		// The greater place is the least, whatever the lesser one.
		{"behind each other", []event{ev(0, mem.Set, 0), ev(1, mem.Set, 1), ev(2, mem.Get, 1), ev(3, mem.Get, 0)}, 1, 2},
		{"in each other", []event{ev(0, mem.Set, 0), ev(1, mem.Set, 1), ev(2, mem.Get, 0), ev(3, mem.Get, 1)}, 0, 2},
		// Of several of these the least lesser one.
		{"several ahead", []event{ev(0, mem.Get, 0), ev(1, mem.Get, 0), ev(2, mem.Get, 0), ev(3, mem.Set, 0)}, 0, 3},
		{"several ahead, of Whos that come late", []event{ev(1, mem.Load, 9), ev(2, mem.Get, 0), ev(1, mem.Get, 0), ev(3, mem.Set, 0)}, 1, 3},
		{"several of one ahead", []event{ev(0, mem.Get, 0), ev(0, mem.Get, 0), ev(0, mem.Get, 0), ev(1, mem.Set, 0)}, 0, 3},
		{"the Get of several is Set's alone", []event{ev(0, mem.Get, 0), ev(0, mem.Set, 0), ev(0, mem.Get, 0), ev(1, mem.Get, 0)}, 1, 3},
		{"his own are none", []event{ev(1, mem.Get, 0), ev(0, mem.Get, 0), ev(1, mem.Set, 0)}, 1, 2},
		// Some of them happen before.
		{"the first one is known", []event{ev(0, mem.Set, 0), ev(0, mem.Store, 0), ev(0, mem.Set, 0), ev(1, mem.Load, 0), ev(1, mem.Get, 0)}, 2, 4},
		{"of one Who it is, of the other not", []event{ev(0, mem.Get, 0), ev(1, mem.Get, 0), ev(0, mem.Store, 0), ev(2, mem.Load, 0), ev(2, mem.Set, 0)}, 1, 4},
		{"both are", []event{ev(0, mem.Get, 0), ev(1, mem.Get, 0), ev(0, mem.Store, 0), ev(1, mem.Store, 1), ev(2, mem.Load, 0), ev(2, mem.Load, 1), ev(2, mem.Set, 0)}, -1, -1},
		{"it is known behind", []event{ev(0, mem.Set, 0), ev(0, mem.Store, 0), ev(1, mem.Get, 0), ev(1, mem.Load, 0)}, 0, 2},
		{"stored ahead", []event{ev(0, mem.Store, 0), ev(0, mem.Set, 0), ev(1, mem.Load, 0), ev(1, mem.Get, 0)}, 1, 3},
		{"by a latch", []event{ev(0, mem.Set, 0), ev(0, mem.Free, 0), ev(1, mem.Take, 0), ev(1, mem.Set, 0)}, -1, -1},
		{"by a Sleep", []event{ev(0, mem.Set, 0), ev(0, mem.Sleep, 0), ev(1, mem.Take, 0), ev(1, mem.Set, 0)}, -1, -1},
		{"by a latch that isn't taken", []event{ev(0, mem.Set, 0), ev(0, mem.Free, 0), not(1, mem.Take, 0), ev(1, mem.Set, 0)}, 0, 3},
		{"by a latch that isn't freed", []event{ev(0, mem.Set, 0), not(0, mem.Free, 0), ev(1, mem.Take, 0), ev(1, mem.Set, 0)}, 0, 3},
		{"by a third one", []event{ev(0, mem.Set, 0), ev(0, mem.Store, 0), ev(2, mem.Load, 0), ev(2, mem.Free, 0), ev(1, mem.Take, 0), ev(1, mem.Set, 0)}, -1, -1},
		{"by a third one, too late", []event{ev(0, mem.Set, 0), ev(2, mem.Load, 0), ev(0, mem.Store, 0), ev(2, mem.Free, 0), ev(1, mem.Take, 0), ev(1, mem.Set, 0)}, 0, 5},
	} {
		race(t, c.name, c.l, c.i, c.j)
	}
}

// closure says by the document's words what happens before what: the steps, one by one, and all ways of them.
func closure(l []event) [][]bool {
	right := func(e event) bool { return e.Kind >= 0 && e.Kind <= 7 }
	step := func(i, j int) bool {
		a, b := l[i], l[j]
		switch {
		case !right(a) || !right(b):
			return false
		case a.Who == b.Who:
			return true
		case a.At != b.At:
			return false
		case a.Kind == mem.Store && b.Kind == mem.Load:
			return !slices.ContainsFunc(l[i+1:j], func(e event) bool { return e.Kind == mem.Store && e.At == a.At })
		}
		return (a.Kind == mem.Free || a.Kind == mem.Sleep) && b.Kind == mem.Take && a.Ok && b.Ok
	}
	ways := make([][]bool, len(l))
	for i := range ways {
		ways[i] = make([]bool, len(l))
		for j := i + 1; j < len(l); j++ {
			ways[i][j] = step(i, j)
		}
	}
	for by := range l {
		for i := range by {
			for j := by + 1; j < len(l); j++ {
				ways[i][j] = ways[i][j] || ways[i][by] && ways[by][j]
			}
		}
	}
	return ways
}

// meeting goes through all pairs, by the greater place, then by the lesser one.
func meeting(l []event, ways [][]bool) (int, int) {
	box := func(e event) bool { return e.Kind == mem.Get || e.Kind == mem.Set }
	for j, b := range l {
		for i, a := range l[:j] {
			if box(a) && box(b) && a.At == b.At && a.Who != b.Who && (a.Kind == mem.Set || b.Kind == mem.Set) && !ways[i][j] {
				return i, j
			}
		}
	}
	return -1, -1
}

// events makes some, of few Whos and things, so that many meet.
func (d *dice) events() []event {
	kinds := pick(d, [][]int{
		{0, 1, 2, 3, 4, 5, 6, 7, 8, -1},
		{0, 1, 0, 1, 2, 3},
		{4, 5, 4, 5, 6, 2, 3},
		{0, 0, 0, 1, 1, 4, 4, 5, 5, 2},
		{0, 0, 0, 1, 1, 4, 4, 5, 5, 6, 2, 2, 2, 3},
	})
	whos, things := 1+d.roll(5), 1+d.roll(3)
	var l []event
	for range d.roll(28) {
		l = append(l, event{Who: d.roll(whos), Kind: pick(d, kinds), At: d.roll(things), Ok: d.roll(5) != 0})
	}
	return l
}

// P9.1, P9.2: whatever there is, held against all ways.
func TestAgainstAllWays(t *testing.T) {
	d := dice(1)
	asked, far, none := map[bool]int{}, 0, 0
	for range 4000 {
		l := d.events()
		ways := closure(l)
		for i := -1; i <= len(l); i++ {
			for j := -1; j <= len(l); j++ {
				want := i >= 0 && j >= 0 && i < len(l) && j < len(l) && ways[i][j]
				if got := clock.Before(l, i, j); got != want {
					t.Fatalf("Before(%d, %d) = %v of %v", i, j, got, l)
				}
				if i >= 0 && i < j && j < len(l) && l[i].Who != l[j].Who {
					asked[want]++
				}
			}
		}
		i, j := clock.Race(l)
		wantI, wantJ := meeting(l, ways)
		if i != wantI || j != wantJ {
			t.Fatalf("Race of %v: %d, %d, want %d, %d", l, i, j, wantI, wantJ)
		}
		if j > 12 {
			far++
		}
		if j < 0 && len(l) > 15 {
			none++
		}
	}
	if asked[true] < 10000 || asked[false] < 10000 || far < 30 || none < 100 {
		t.Errorf("not all of it was asked: %v, %d, %d", asked, far, none)
	}
}

// P9.2
func TestGoesThroughThree(t *testing.T) {
	d := dice(2)
	through := 0
	for range 500 {
		l := d.events()
		for i := range l {
			for j := range l {
				if !clock.Before(l, i, j) {
					continue
				}
				if i >= j || clock.Before(l, j, i) {
					t.Fatalf("%d and %d of %v", i, j, l)
				}
				for k := range l {
					if clock.Before(l, j, k) && !clock.Before(l, i, k) {
						t.Fatalf("%d before %d before %d of %v", i, j, k, l)
					} else if l[i].Who != l[j].Who && clock.Before(l, j, k) && l[j].Who != l[k].Who {
						through++
					}
				}
			}
		}
	}
	if through < 1000 {
		t.Errorf("only %d went through three", through)
	}
}

// stir goes on by one access of a memory: who goes to the box of a number if that may be, else to its latch.
func (d *dice) stir(m *mem.Mem, whos, boxes int, may func(who, box int) bool) {
	who, box := d.roll(whos), d.roll(boxes)
	switch {
	case !may(who, box):
		m.Take(who, box)
	case d.roll(3) == 0:
		m.Get(who, box)
	case d.roll(2) == 0:
		m.Set(who, box, batch.Batch{{Port: who, Diff: 1}})
	case d.roll(2) == 0:
		m.Free(who, box)
	case d.roll(2) == 0:
		m.Sleep(who, box)
	default:
		m.Wake(who, box)
	}
}

// P9.3: where each box is gone to by those alone that have its latch there is no Race.
func TestNoRaceWithLatches(t *testing.T) {
	d := dice(3)
	sets, raced := 0, 0
	for range 200 {
		whos, boxes := 2+d.roll(5), 1+d.roll(3)
		run := func(may func(m *mem.Mem, who, box int) bool) *mem.Mem {
			m, e := mem.New(1, boxes, boxes)
			if e != api.OK {
				t.Fatal(e)
			}
			for range 400 {
				d.stir(m, whos, boxes, func(who, box int) bool { return may(m, who, box) })
			}
			return m
		}
		m := run(func(m *mem.Mem, who, box int) bool { return m.Holder(box) == who })
		race(t, "with latches", m.Log(), -1, -1)
		for _, e := range m.Log() {
			if e.Kind == mem.Set {
				sets++
			}
		}
		// And without them there is one.
		m = run(func(m *mem.Mem, who, box int) bool { return m.Holder(box) == who || d.roll(10) == 0 })
		if i, _ := clock.Race(m.Log()); i >= 0 {
			raced++
		}
	}
	if sets < 1000 || raced < 100 {
		t.Errorf("%d Sets, %d raced", sets, raced)
	}
}

// P1: long lists, of few who go on by latches or of many who go to boxes of their own, end.
func TestLongLists(t *testing.T) {
	var l []event
	for i := range 100000 {
		who := i * 7 % 9
		l = append(l, ev(who, mem.Take, 0), ev(who, mem.Get, 0), ev(who, mem.Set, 0), ev(who, mem.Free, 0))
	}
	race(t, "few", l, -1, -1)
	// 5 has the latch for the last time behind 99992 others: of what comes then it knows nothing.
	race(t, "few", append(l, ev(4, mem.Load, 0), ev(5, mem.Get, 0)), 4*99993+2, 400001)
	if !clock.Before(l, 0, 399999) || clock.Before(append(l, ev(9, mem.Get, 0)), 0, 400000) {
		t.Error("few")
	}
	l = nil
	for who := range 3000 {
		l = append(l, ev(who, mem.Load, who), ev(who, mem.Get, 0), ev(who, mem.Set, 1+who), ev(who, mem.Store, who+1))
	}
	race(t, "many", l, -1, -1)
	race(t, "many", append(l, ev(-1, mem.Load, 3000), ev(-1, mem.Set, 0)), -1, -1)
	race(t, "many", append(l, ev(-1, mem.Load, 2999), ev(-1, mem.Set, 0)), 2999*4+1, 12001)
	race(t, "many", append(l, ev(-1, mem.Set, 0)), 1, 12000)
}

// P1: whatever the Events are, each call ends.
func TestAnyEventsEnd(t *testing.T) {
	d := dice(4)
	numbers := []int{math.MinInt, -1, 0, 1, 2, 3, 4, 5, 6, 7, 8, 65536, math.MaxInt}
	for range 3000 {
		var l []event
		for range d.roll(30) {
			l = append(l, event{Who: pick(&d, numbers), Kind: pick(&d, numbers), At: pick(&d, numbers), Ok: d.roll(2) == 0})
		}
		clock.Before(l, pick(&d, numbers), pick(&d, numbers))
		if i, j := clock.Race(l); i >= j && i != -1 || clock.Before(l, i, j) {
			t.Fatalf("Race of %v: %d, %d", l, i, j)
		}
	}
}

// Nothing that is handed in is changed, and what is asked once is answered again.
func TestNothingIsChanged(t *testing.T) {
	d := dice(5)
	for range 300 {
		l := d.events()
		full := append(slices.Clone(l), ev(44, mem.Set, 0), ev(45, mem.Set, 0))
		kept := slices.Clone(full)
		given := full[:len(l)]
		i, j := clock.Race(given)
		was := clock.Before(given, 0, len(l)-1)
		if again, at := clock.Race(given); again != i || at != j || clock.Before(given, 0, len(l)-1) != was {
			t.Fatalf("of %v another answer", l)
		}
		if !slices.Equal(full, kept) {
			t.Fatalf("%v is changed", l)
		}
	}
}
