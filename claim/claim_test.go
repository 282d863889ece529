package claim_test

import (
	"errors"
	"math"
	"math/big"
	"slices"
	"strconv"
	"testing"

	"marchland/api"
	"marchland/bag"
	"marchland/batch"
	"marchland/claim"
	"marchland/fault"
	"marchland/front"
	"marchland/graph"
)

type (
	change = batch.Change
	own    = claim.Own
	table  = claim.Table
)

const (
	most  = int64(api.MaxCount)
	hold  = int64(api.MaxHold)
	never = api.Never
)

// ch is a Change in short, hd a Hand.
func ch(port int, time uint64, diff int64) change { return change{Port: port, Time: time, Diff: diff} }

func hd(id, port int, time uint64) claim.Hand { return claim.Hand{Id: id, Port: port, Time: time} }

func hands(l ...claim.Hand) own { return own{Hands: l} }

func held(l ...change) own { return own{Held: l} }

// dice is a row of numbers that is the same each time.
type dice uint64

func (d *dice) roll(n int) int {
	*d = *d*6364136223846793005 + 1442695040888963407
	return int(uint64(*d)>>33) % n
}

func pick[T any](d *dice, l []T) T { return l[d.roll(len(l))] }

// roomy is a copy of l with things in its spare room; whole tells whether all of it is as it was.
func roomy[T comparable](l []T, more T) (copied []T, whole func() bool) {
	full := append(slices.Clone(l), more, more)
	kept := slices.Clone(full)
	return full[:len(l)], func() bool { return slices.Equal(full, kept) }
}

// spoil overwrites a list, its spare room too.
func spoil[T any](l []T, by T) {
	l = l[:cap(l)]
	for i := range l {
		l[i] = by
	}
}

func same(a, b own) bool {
	return slices.Equal(a.Hands, b.Hands) && slices.Equal(a.Held, b.Held)
}

func copied(o own) own { return own{Hands: slices.Clone(o.Hands), Held: slices.Clone(o.Held)} }

// may tells whether an Own is one of which something is promised.
func may(o own) bool {
	for i, h := range o.Hands {
		if h.Time == never || i > 0 && o.Hands[i-1].Id >= h.Id {
			return false
		}
	}
	return bag.Right(o.Held)
}

// answer is what the calls that change an Own answer.
type answer struct {
	o own
	b batch.Batch
	e error
}

type call func(o own) answer

func open(h, id int) call {
	return func(o own) answer { o, b, e := claim.Open(o, h, id); return answer{o, b, e} }
}

func advance(h int, t uint64) call {
	return func(o own) answer { o, b, e := claim.Advance(o, h, t); return answer{o, b, e} }
}

func shut(h int) call {
	return func(o own) answer { o, b, e := claim.Close(o, h); return answer{o, b, e} }
}

func update(paths [][]uint64, l ...change) call {
	return func(o own) answer { o, b, e := claim.Update(o, paths, l); return answer{o, b, e} }
}

// ask makes a call that comes off, and holds all that is promised of it.
func ask(t *testing.T, name string, o own, f call, want own, b batch.Batch) {
	t.Helper()
	o, untouched := watched(o)
	got := f(o)
	if got.e != nil || !same(got.o, want) || !slices.Equal(got.b, b) {
		t.Errorf("%s: of %v: %v, %v, %v, want %v, %v", name, o, got.o, got.b, got.e, want, b)
	}
	if !may(got.o) || !batch.Right(got.b) {
		t.Errorf("%s: %v, %v may not be", name, got.o, got.b)
	}
	if !untouched() {
		t.Errorf("%s: %v is changed", name, o)
	}
}

// refuse makes a call that doesn't come off: nothing is changed (P5), and its error is that one, at that place.
func refuse(t *testing.T, name string, o own, f call, want string) {
	t.Helper()
	kept := copied(o)
	o, untouched := watched(o)
	got := f(o)
	if got.e == nil || fault.Text(got.e) != want || got.e.Error() != want {
		t.Errorf("%s: of %v: %v, want %s", name, o, got.e, want)
	}
	if !same(got.o, kept) || len(got.b) != 0 {
		t.Errorf("%s: of %v: %v, %v beside an error", name, kept, got.o, got.b)
	}
	if !untouched() {
		t.Errorf("%s: %v is changed", name, o)
	}
}

// watched is a copy of an Own with things in its spare room; untouched tells whether all of it is as it was.
func watched(o own) (own, func() bool) {
	hands, wholeHands := roomy(o.Hands, hd(77, 7, 7))
	held, wholeHeld := roomy(o.Held, ch(11, 11, 11))
	return own{Hands: hands, Held: held}, func() bool { return wholeHands() && wholeHeld() }
}

// P7.1: the document's example, of the chapter and of the whole.
func TestExample(t *testing.T) {
	paths := graph.Paths(graph.Graph{Ports: 2, Edges: []graph.Edge{{From: 0, To: 1, Add: 3}}, Inputs: []int{0}})
	o := hands(hd(3, 1, 5))
	ask(t, "advance", o, advance(3, 9), hands(hd(3, 1, 9)), batch.Batch{ch(1, 5, -1), ch(1, 9, 1)})
	refuse(t, "update", hands(hd(3, 1, 9)), update(paths, ch(1, 7, 1)), "change 0: unjustified")
}

// P7.1
func TestFind(t *testing.T) {
	l := []claim.Hand{hd(math.MinInt, 1, 2), hd(-1, 5, 6), hd(0, 0, 0), hd(3, 1, 5), hd(4, 1, 5), hd(70, 63, never-1), hd(math.MaxInt, 0, 1)}
	o := own{Hands: l, Held: bag.Bag{ch(2, 2, 2)}}
	for _, h := range l {
		if got, ok := claim.Find(o, h.Id); !ok || got != h {
			t.Errorf("Find %d: %v, %v", h.Id, got, ok)
		}
	}
	for _, id := range []int{math.MinInt + 1, -2, 1, 2, 5, 69, 71, math.MaxInt - 1} {
		if got, ok := claim.Find(o, id); ok || got != (claim.Hand{}) {
			t.Errorf("Find %d: %v, %v", id, got, ok)
		}
	}
	for _, o := range []own{{}, hands(), held(ch(0, 0, 1))} {
		for _, id := range []int{-1, 0, 1} {
			if got, ok := claim.Find(o, id); ok || got != (claim.Hand{}) {
				t.Errorf("Find %d of %v: %v, %v", id, o, got, ok)
			}
		}
	}
}

// P7.1
func TestOpen(t *testing.T) {
	o := own{Hands: []claim.Hand{hd(3, 1, 5), hd(7, 2, 0)}, Held: bag.Bag{ch(0, 9, 2), ch(1, 5, 1)}}
	for _, c := range []struct {
		h, id int
		want  []claim.Hand
		b     batch.Batch
	}{
		{3, 0, []claim.Hand{hd(0, 1, 5), hd(3, 1, 5), hd(7, 2, 0)}, batch.Batch{ch(1, 5, 1)}},
		{3, 2, []claim.Hand{hd(2, 1, 5), hd(3, 1, 5), hd(7, 2, 0)}, batch.Batch{ch(1, 5, 1)}},
		{3, 4, []claim.Hand{hd(3, 1, 5), hd(4, 1, 5), hd(7, 2, 0)}, batch.Batch{ch(1, 5, 1)}},
		{7, 6, []claim.Hand{hd(3, 1, 5), hd(6, 2, 0), hd(7, 2, 0)}, batch.Batch{ch(2, 0, 1)}},
		{7, 8, []claim.Hand{hd(3, 1, 5), hd(7, 2, 0), hd(8, 2, 0)}, batch.Batch{ch(2, 0, 1)}},
		{3, 8, []claim.Hand{hd(3, 1, 5), hd(7, 2, 0), hd(8, 1, 5)}, batch.Batch{ch(1, 5, 1)}},
		{7, 0, []claim.Hand{hd(0, 2, 0), hd(3, 1, 5), hd(7, 2, 0)}, batch.Batch{ch(2, 0, 1)}},
		{3, math.MaxInt, []claim.Hand{hd(3, 1, 5), hd(7, 2, 0), hd(math.MaxInt, 1, 5)}, batch.Batch{ch(1, 5, 1)}},
	} {
		ask(t, "open", o, open(c.h, c.id), own{Hands: c.want, Held: o.Held}, c.b)
	}
	ask(t, "alone", hands(hd(0, 63, never-1)), open(0, 1), hands(hd(0, 63, never-1), hd(1, 63, never-1)), batch.Batch{ch(63, never-1, 1)})
	ask(t, "below 0", hands(hd(-4, 2, 3)), open(-4, 0), hands(hd(-4, 2, 3), hd(0, 2, 3)), batch.Batch{ch(2, 3, 1)})
}

// P7.1, P5
func TestOpenRefuses(t *testing.T) {
	o := own{Hands: []claim.Hand{hd(-5, 0, 0), hd(3, 1, 5), hd(7, 2, 0)}, Held: bag.Bag{ch(0, 9, 2)}}
	for _, c := range []struct {
		h, id int
		want  string
	}{
		{4, 9, "handle 4: stale"},
		{-1, 9, "handle -1: stale"},
		{math.MinInt, 9, "handle -9223372036854775808: stale"},
		{3, 3, "argument"},
		{3, 7, "argument"},
		{7, 3, "argument"},
		{3, -1, "argument"},
		{3, -5, "argument"},
		{-5, -4, "argument"},
		{3, math.MinInt, "argument"},
		// Of both that of the handle.
		{4, 3, "handle 4: stale"},
		{4, -1, "handle 4: stale"},
		{4, 4, "handle 4: stale"},
		{-1, -1, "handle -1: stale"},
	} {
		refuse(t, "open", o, open(c.h, c.id), c.want)
	}
	for _, o := range []own{{}, hands(), held(ch(0, 0, 1))} {
		refuse(t, "nothing", o, open(0, 1), "handle 0: stale")
	}
}

// P7.1
func TestAdvance(t *testing.T) {
	o := own{Hands: []claim.Hand{hd(3, 1, 5), hd(4, 1, 5), hd(7, 2, 1<<63-1)}, Held: bag.Bag{ch(1, 9, 2)}}
	with := func(l ...claim.Hand) own { return own{Hands: l, Held: o.Held} }
	for _, c := range []struct {
		name string
		h    int
		t    uint64
		want own
		b    batch.Batch
	}{
		{"on", 3, 6, with(hd(3, 1, 6), o.Hands[1], o.Hands[2]), batch.Batch{ch(1, 5, -1), ch(1, 6, 1)}},
		{"on to what is held", 4, 9, with(o.Hands[0], hd(4, 1, 9), o.Hands[2]), batch.Batch{ch(1, 5, -1), ch(1, 9, 1)}},
		{"to the same", 3, 5, o, nil},
		{"to the same", 7, 1<<63 - 1, o, nil},
		{"times have no sign", 7, 1 << 63, with(o.Hands[0], o.Hands[1], hd(7, 2, 1<<63)), batch.Batch{ch(2, 1<<63-1, -1), ch(2, 1<<63, 1)}},
		{"as far as there is", 3, never - 1, with(hd(3, 1, never-1), o.Hands[1], o.Hands[2]), batch.Batch{ch(1, 5, -1), ch(1, never-1, 1)}},
	} {
		ask(t, c.name, o, advance(c.h, c.t), c.want, c.b)
	}
	ask(t, "from 0", hands(hd(0, 63, 0)), advance(0, 1), hands(hd(0, 63, 1)), batch.Batch{ch(63, 0, -1), ch(63, 1, 1)})
	ask(t, "at 0", hands(hd(0, 63, 0)), advance(0, 0), hands(hd(0, 63, 0)), nil)
	ask(t, "at the end", hands(hd(0, 63, never-1)), advance(0, never-1), hands(hd(0, 63, never-1)), nil)
}

// P7.1, P5
func TestAdvanceRefuses(t *testing.T) {
	o := own{Hands: []claim.Hand{hd(3, 1, 5), hd(7, 2, 1<<63)}, Held: bag.Bag{ch(1, 4, 2)}}
	for _, c := range []struct {
		h    int
		t    uint64
		want string
	}{
		{4, 9, "handle 4: stale"},
		{-3, 9, "handle -3: stale"},
		{3, never, "argument"},
		{7, never, "argument"},
		{3, 4, "back"},
		{3, 0, "back"},
		{7, 1<<63 - 1, "back"},
		{7, 5, "back"},
		// Of several the one named first.
		{4, never, "handle 4: stale"},
		{4, 0, "handle 4: stale"},
	} {
		refuse(t, "advance", o, advance(c.h, c.t), c.want)
	}
	for _, o := range []own{{}, hands(), held(ch(0, 0, 1))} {
		refuse(t, "nothing", o, advance(0, 0), "handle 0: stale")
	}
}

// P7.1
func TestClose(t *testing.T) {
	o := own{Hands: []claim.Hand{hd(0, 1, 5), hd(3, 1, 5), hd(70, 2, never-1)}, Held: bag.Bag{ch(1, 5, 2)}}
	with := func(l ...claim.Hand) own { return own{Hands: l, Held: o.Held} }
	ask(t, "the first", o, shut(0), with(o.Hands[1], o.Hands[2]), batch.Batch{ch(1, 5, -1)})
	ask(t, "between", o, shut(3), with(o.Hands[0], o.Hands[2]), batch.Batch{ch(1, 5, -1)})
	ask(t, "the last", o, shut(70), with(o.Hands[0], o.Hands[1]), batch.Batch{ch(2, never-1, -1)})
	ask(t, "the only one", with(hd(9, 63, 0)), shut(9), held(o.Held...), batch.Batch{ch(63, 0, -1)})
	ask(t, "handles alone", hands(hd(9, 63, 0)), shut(9), own{}, batch.Batch{ch(63, 0, -1)})
	for _, h := range []int{-1, 1, 2, 4, 69, 71, math.MinInt, math.MaxInt} {
		refuse(t, "close", o, shut(h), "handle "+strconv.Itoa(h)+": stale")
	}
	for _, o := range []own{{}, hands(), held(ch(0, 0, 1))} {
		refuse(t, "nothing", o, shut(0), "handle 0: stale")
	}
}

// P7.1: what was closed isn't there any more.
func TestCloseTwice(t *testing.T) {
	o, _, e := claim.Close(hands(hd(3, 1, 5), hd(4, 1, 5)), 3)
	if e != nil {
		t.Fatal(e)
	}
	refuse(t, "again", o, shut(3), "handle 3: stale")
	refuse(t, "advance", o, advance(3, 9), "handle 3: stale")
	refuse(t, "open", o, open(3, 9), "handle 3: stale")
	ask(t, "its Id", o, open(4, 3), hands(hd(3, 1, 5), hd(4, 1, 5)), batch.Batch{ch(1, 5, 1)})
}

// line is ports 0 to 2, of 3 and of 4, and a port 3 that nobody comes to.
func line() [][]uint64 {
	return graph.Paths(graph.Graph{Ports: 4, Edges: []graph.Edge{{From: 0, To: 1, Add: 3}, {From: 1, To: 2, Add: 4}, {From: 2, To: 3, Add: never}}, Inputs: []int{0}})
}

// P7.1: handles alone, stamps alone, both.
func TestUpdate(t *testing.T) {
	hand, stamp := hands(hd(0, 0, 5)), held(ch(0, 5, 1))
	both := own{Hands: []claim.Hand{hd(0, 0, 5), hd(8, 1, 2)}, Held: bag.Bag{ch(0, 7, 3), ch(2, 0, 1)}}
	for _, c := range []struct {
		name string
		o    own
		l    []change
		held bag.Bag
		b    batch.Batch
	}{
		{"nothing of nothing", own{}, nil, nil, nil},
		{"nothing", both, []change{}, both.Held, nil},
		{"by a handle, there", hand, []change{ch(0, 5, 1)}, bag.Bag{ch(0, 5, 1)}, batch.Batch{ch(0, 5, 1)}},
		{"by a handle, later", hand, []change{ch(0, never-1, 2)}, bag.Bag{ch(0, never-1, 2)}, batch.Batch{ch(0, never-1, 2)}},
		{"by a handle, by a way", hand, []change{ch(1, 8, 1)}, bag.Bag{ch(1, 8, 1)}, batch.Batch{ch(1, 8, 1)}},
		{"by a handle, by a long way", hand, []change{ch(2, 12, 1)}, bag.Bag{ch(2, 12, 1)}, batch.Batch{ch(2, 12, 1)}},
		{"by a stamp, there", stamp, []change{ch(0, 5, 1)}, bag.Bag{ch(0, 5, 2)}, batch.Batch{ch(0, 5, 1)}},
		{"by a stamp, by a way", stamp, []change{ch(1, 8, 4)}, bag.Bag{ch(0, 5, 1), ch(1, 8, 4)}, batch.Batch{ch(1, 8, 4)}},
		{"by a stamp that goes by this", stamp, []change{ch(0, 5, -1), ch(1, 8, 1)}, bag.Bag{ch(1, 8, 1)}, batch.Batch{ch(0, 5, -1), ch(1, 8, 1)}},
		{"given up", stamp, []change{ch(0, 5, -1)}, nil, batch.Batch{ch(0, 5, -1)}},
		{"some given up", both, []change{ch(0, 7, -2)}, bag.Bag{ch(0, 7, 1), ch(2, 0, 1)}, batch.Batch{ch(0, 7, -2)}},
		{"all given up", both, []change{ch(2, 0, -1), ch(0, 7, -3)}, nil, batch.Batch{ch(0, 7, -3), ch(2, 0, -1)}},
		{"by any of them", both, []change{ch(2, 0, 1), ch(0, 5, 1), ch(1, 2, 1)}, bag.Bag{ch(0, 5, 1), ch(0, 7, 3), ch(1, 2, 1), ch(2, 0, 2)}, batch.Batch{ch(0, 5, 1), ch(1, 2, 1), ch(2, 0, 1)}},
		{"packed", hand, []change{ch(1, 8, 2), ch(0, 5, 1), ch(1, 8, -2), ch(0, 5, 3)}, bag.Bag{ch(0, 5, 4)}, batch.Batch{ch(0, 5, 4)}},
		{"what nothing lets be, and back", hand, []change{ch(2, 0, 2), ch(2, 0, -2)}, nil, nil},
		{"at a port beyond, and back", hand, []change{ch(9, 0, 2), ch(9, 0, -2)}, nil, nil},
		{"a handle at a port beyond", hands(hd(0, 0, 5), hd(1, 63, 0)), []change{ch(0, 5, 1)}, bag.Bag{ch(0, 5, 1)}, batch.Batch{ch(0, 5, 1)}},
	} {
		ask(t, c.name, c.o, update(line(), c.l...), own{Hands: c.o.Hands, Held: c.held}, c.b)
	}
}

// P7.1: what the one lets be it lets be from its time on, and the time that a way takes, and not a time ahead.
func TestUpdateLetBe(t *testing.T) {
	far := graph.Paths(graph.Graph{Ports: 2, Edges: []graph.Edge{{From: 0, To: 1, Add: never - 3}}, Inputs: []int{0}})
	for _, c := range []struct {
		name  string
		paths [][]uint64
		o     own
		port  int
		from  uint64 // Never: none
	}{
		{"handle", line(), hands(hd(0, 0, 5)), 0, 5},
		{"handle, way", line(), hands(hd(0, 0, 5)), 1, 8},
		{"handle, long way", line(), hands(hd(0, 0, 5)), 2, 12},
		{"handle, way of Never", line(), hands(hd(0, 0, 5)), 3, never},
		{"no way back", line(), hands(hd(0, 1, 0)), 0, never},
		{"stamp", line(), held(ch(1, 6, 1)), 1, 6},
		{"stamp, way", line(), held(ch(1, 6, 1)), 2, 10},
		{"no way back of a stamp", line(), held(ch(2, 0, 9)), 1, never},
		{"the earlier one, a stamp", line(), own{Hands: []claim.Hand{hd(0, 0, 5)}, Held: bag.Bag{ch(1, 6, 1)}}, 1, 6},
		{"the earlier one, a handle", line(), own{Hands: []claim.Hand{hd(0, 0, 5)}, Held: bag.Bag{ch(1, 9, 1)}}, 1, 8},
		{"the last handle", line(), hands(hd(0, 0, 9), hd(1, 1, 9), hd(2, 0, 3)), 1, 6},
		{"the last stamp", line(), held(ch(0, 9, 1), ch(1, 9, 1), ch(2, 3, 1)), 2, 3},
		{"a far way", far, hands(hd(0, 0, 1)), 1, never - 2},
		{"as far as there is", far, hands(hd(0, 0, 2)), 1, never - 1},
		{"a way that comes to Never", far, hands(hd(0, 0, 3)), 1, never},
		{"a way that would wrap", far, hands(hd(0, 0, 4)), 1, never},
		{"nothing", line(), own{}, 0, never},
		{"ports beyond", line(), own{Hands: []claim.Hand{hd(0, 4, 0), hd(1, 63, 0)}, Held: bag.Bag{ch(5, 0, 1)}}, 0, never},
	} {
		for _, time := range []uint64{0, 1, 5, c.from - 2, c.from - 1, c.from, c.from + 1, 1 << 63, never - 2, never - 1} {
			if time == never {
				continue
			}
			x := ch(c.port, time, 1)
			if c.from != never && time >= c.from {
				then, _ := bag.Apply(c.o.Held, batch.Batch{x})
				ask(t, c.name, c.o, update(c.paths, x), own{Hands: c.o.Hands, Held: then}, batch.Batch{x})
			} else {
				refuse(t, c.name, c.o, update(c.paths, x), "change 0: unjustified")
			}
		}
	}
}

// P7.1: what comes by an Update lets nothing else of it be.
func TestUpdateGoesByWhatWasHeld(t *testing.T) {
	o := hands(hd(0, 1, 9))
	refuse(t, "one by the other", o, update(line(), ch(0, 0, 1), ch(1, 9, 1)), "change 0: unjustified")
	refuse(t, "one by the other", o, update(line(), ch(1, 9, 1), ch(2, 4, 1)), "change 1: unjustified")
	refuse(t, "by itself", own{}, update(line(), ch(0, 0, 1)), "change 0: unjustified")
	refuse(t, "more of what there was", hands(hd(0, 0, 9)), update(line(), ch(0, 5, 1)), "change 0: unjustified")
}

// P7.1, P5: batch.Pack's, at no place, ahead of all.
func TestUpdateRefusesWhatPackDoes(t *testing.T) {
	o := own{Hands: []claim.Hand{hd(0, 0, 5)}, Held: bag.Bag{ch(0, 5, hold)}}
	bad := []change{ch(1, 0, 1), ch(9, 0, 1), ch(0, 4, -1)}
	for _, c := range []struct {
		l    []change
		want string
	}{
		{slices.Repeat([]change{ch(0, 6, 1)}, 17), "many"},
		{slices.Repeat([]change{ch(64, never, 0)}, 17), "many"},
		{[]change{ch(64, 5, 1)}, "port"},
		{[]change{ch(-1, 5, 1)}, "port"},
		{[]change{ch(math.MinInt, 5, 1)}, "port"},
		{[]change{ch(math.MaxInt, 5, 1)}, "port"},
		{[]change{ch(0, never, 1)}, "argument"},
		{[]change{ch(0, never, -1)}, "argument"},
		{[]change{ch(0, 5, most+1)}, "over"},
		{[]change{ch(0, 5, -most-1)}, "over"},
		{[]change{ch(0, 5, math.MinInt64)}, "over"},
		{[]change{ch(0, 6, most), ch(0, 6, 1)}, "over"},
		{[]change{ch(0, 6, -most), ch(0, 6, -1)}, "over"},
		{[]change{ch(0, never, 1), ch(64, 5, 1)}, "argument"},
	} {
		refuse(t, "pack", o, update(line(), c.l...), c.want)
		if l := append(slices.Clone(bad), c.l...); len(l) <= 16 {
			refuse(t, "pack ahead of all", o, update(line(), l...), c.want)
		}
		if got, k := batch.Pack(c.l); len(got) != 0 || k.Error() != c.want {
			t.Errorf("Pack of %v: %v", c.l, k)
		}
	}
	ask(t, "16", o, update(line(), slices.Repeat([]change{ch(0, 6, 1)}, 16)...), own{Hands: o.Hands, Held: bag.Bag{ch(0, 5, hold), ch(0, 6, 16)}}, batch.Batch{ch(0, 6, 16)})
}

// P7.1, P5: of each Change the error named first, and of all the first one's, by its number in what was packed.
func TestUpdateRefuses(t *testing.T) {
	o := own{Hands: []claim.Hand{hd(0, 0, 5)}, Held: bag.Bag{ch(0, 7, hold), ch(1, 9, 2)}}
	fine := ch(0, 5, 1)
	for _, c := range []struct {
		name string
		l    []change
		want string
	}{
		{"beyond the ports", []change{ch(4, 5, 1)}, "change 0: port"},
		{"less, beyond the ports", []change{ch(4, 5, -1)}, "change 0: port"},
		{"the last port", []change{ch(63, never-1, most)}, "change 0: port"},
		{"too early", []change{ch(0, 4, 1)}, "change 0: unjustified"},
		{"less of nothing", []change{ch(0, 5, -1)}, "change 0: unjustified"},
		{"less than there is", []change{ch(1, 9, -3)}, "change 0: unjustified"},
		{"less of another time", []change{ch(1, 8, -1)}, "change 0: unjustified"},
		{"less of another port", []change{ch(2, 9, -1)}, "change 0: unjustified"},
		{"much less", []change{ch(1, 9, -most)}, "change 0: unjustified"},
		{"one too many", []change{ch(0, 7, 1)}, "change 0: over"},
		{"by far too many", []change{ch(0, 7, most)}, "change 0: over"},
		{"too many of nothing", []change{ch(0, 6, hold+1)}, "change 0: over"},
		{"too many, and too early", []change{ch(0, 4, most)}, "change 0: unjustified"},
		{"behind one that may be", []change{fine, ch(4, 5, 1)}, "change 1: port"},
		{"behind one that may be", []change{fine, ch(1, 9, -3)}, "change 1: unjustified"},
		{"behind one that may be", []change{fine, ch(0, 7, 1)}, "change 1: over"},
		{"ahead of one that may be", []change{ch(0, 4, 1), fine}, "change 0: unjustified"},
		{"by the number when packed", []change{ch(4, 5, 1), ch(1, 9, -1), fine}, "change 2: port"},
		{"by the number when packed", []change{ch(0, 6, 1), ch(1, 3, 1), fine, ch(0, 6, -1)}, "change 1: unjustified"},
		{"the sum counts", []change{ch(1, 9, -1), ch(1, 9, -1), ch(1, 9, -1)}, "change 0: unjustified"},
		{"the sum counts", []change{ch(0, 6, hold), fine, ch(0, 6, 1)}, "change 1: over"},
		{"of several the first", []change{ch(4, 5, 1), ch(0, 7, 1)}, "change 0: over"},
		{"of several the first", []change{ch(4, 5, 1), ch(0, 4, 1)}, "change 0: unjustified"},
		{"of several the first", []change{ch(1, 9, -3), ch(0, 7, 1)}, "change 0: over"},
		{"of several the first", []change{ch(0, 4, 1), ch(0, 7, 1)}, "change 0: unjustified"},
		{"of several the first", []change{ch(5, 0, 1), ch(4, 9, 1), fine}, "change 1: port"},
		{"the last of 16", []change{fine, ch(0, 6, 1), ch(0, 8, 1), ch(0, 9, 1), ch(1, 8, 1), ch(1, 9, -2), ch(1, 10, 1), ch(1, 11, 1),
			ch(1, 12, 1), ch(2, 12, 1), ch(2, 13, 1), ch(2, 14, 1), ch(2, 15, 1), ch(2, 16, 1), ch(2, 17, 1), ch(3, 18, 1)}, "change 15: unjustified"},
	} {
		refuse(t, c.name, o, update(line(), c.l...), c.want)
	}
	for _, paths := range [][][]uint64{nil, {}} {
		refuse(t, "no ports", o, update(paths, fine), "change 0: port")
		refuse(t, "no ports", o, update(paths, ch(1, 9, -1)), "change 0: port")
		ask(t, "no ports, no change", o, update(paths), o, nil)
	}
}

// P7.1: 2^50 of one port and time may be held, and not one more.
func TestUpdateAtTheLimit(t *testing.T) {
	for _, c := range []struct {
		there, diff, want int64
		e                 string
	}{
		{0, hold, hold, ""},
		{0, hold + 1, 0, "over"},
		{0, most, 0, "over"},
		{1, hold - 1, hold, ""},
		{1, hold, 0, "over"},
		{hold - 1, 1, hold, ""},
		{hold - 1, 2, 0, "over"},
		{hold, -1, hold - 1, ""},
		{hold, 1, 0, "over"},
		{hold, -hold, 0, ""},
		{hold, -hold - 1, 0, "unjustified"},
		// A Bag may have more than one may hold: as much as Held would have counts, whichever way it goes.
		{hold + 2, -1, 0, "over"},
		{hold + 2, -2, hold, ""},
		{most, -1, 0, "over"},
		{most, hold - most, hold, ""},
		{most, hold - most + 1, 0, "over"},
		{most, -most, 0, ""},
		{most, most, 0, "over"},
	} {
		o := own{Hands: []claim.Hand{hd(0, 0, 5)}}
		want := own{Hands: o.Hands}
		// What is held of other ports and times doesn't count.
		around := bag.Bag{ch(0, 6, hold), ch(0, 8, hold), ch(1, 7, hold)}
		at := func(n int64) bag.Bag {
			if n == 0 {
				return around
			}
			return slices.Insert(slices.Clone(around), 1, ch(0, 7, n))
		}
		o.Held, want.Held = at(c.there), at(c.want)
		x := ch(0, 7, c.diff)
		if c.e == "" {
			ask(t, "limit", o, update(line(), x), want, batch.Batch{x})
		} else {
			refuse(t, "limit", o, update(line(), x), "change 0: "+c.e)
		}
	}
	ask(t, "all of them", hands(hd(0, 0, 5)), update(line(), ch(0, 5, hold), ch(0, 6, hold), ch(1, 8, hold)),
		own{Hands: []claim.Hand{hd(0, 0, 5)}, Held: bag.Bag{ch(0, 5, hold), ch(0, 6, hold), ch(1, 8, hold)}},
		batch.Batch{ch(0, 5, hold), ch(0, 6, hold), ch(1, 8, hold)})
}

// P7.1: errors are api's, through their places.
func TestErrorsAreApis(t *testing.T) {
	_, _, stale := claim.Close(own{}, 4)
	if !errors.Is(stale, api.ErrStale) || fault.Kind(stale) != api.ErrStale || !slices.Equal(fault.Path(stale), []fault.Place{{What: "handle", N: 4}}) {
		t.Error(stale)
	}
	_, _, back := claim.Advance(hands(hd(0, 0, 5)), 0, 4)
	if !errors.Is(back, api.ErrBack) || fault.Kind(back) != api.ErrBack || len(fault.Path(back)) != 0 {
		t.Error(back)
	}
	_, _, change := claim.Update(own{}, line(), []change{ch(2, 0, 1)})
	if !errors.Is(change, api.ErrUnjustified) || !slices.Equal(fault.Path(change), []fault.Place{{What: "change", N: 0}}) {
		t.Error(change)
	}
	_, _, port := claim.Update(own{}, line(), []batch.Change{ch(64, 0, 1)})
	if !errors.Is(port, api.ErrPort) || len(fault.Path(port)) != 0 {
		t.Error(port)
	}
}

// P7.1
func TestAll(t *testing.T) {
	for _, c := range []struct {
		name string
		o    own
		want bag.Bag
	}{
		{"nothing", own{}, nil},
		{"nothing", own{Hands: []claim.Hand{}, Held: bag.Bag{}}, nil},
		{"handles alone", hands(hd(0, 2, 9), hd(1, 0, 3)), bag.Bag{ch(0, 3, 1), ch(2, 9, 1)}},
		{"handles at one place", hands(hd(0, 1, 5), hd(1, 1, 4), hd(2, 1, 5), hd(64, 1, 5)), bag.Bag{ch(1, 4, 1), ch(1, 5, 3)}},
		{"stamps alone", held(ch(0, 3, 2), ch(1, 0, most)), bag.Bag{ch(0, 3, 2), ch(1, 0, most)}},
		{"both, apart", own{Hands: []claim.Hand{hd(5, 1, 1)}, Held: bag.Bag{ch(1, 0, 2), ch(1, 2, 2)}}, bag.Bag{ch(1, 0, 2), ch(1, 1, 1), ch(1, 2, 2)}},
		{"both, at one place", own{Hands: []claim.Hand{hd(5, 1, 2), hd(6, 1, 2)}, Held: bag.Bag{ch(1, 0, 2), ch(1, 2, 2)}}, bag.Bag{ch(1, 0, 2), ch(1, 2, 4)}},
		{"ahead and behind", own{Hands: []claim.Hand{hd(5, 63, never-1), hd(6, 0, 0)}, Held: bag.Bag{ch(1, 0, 2)}}, bag.Bag{ch(0, 0, 1), ch(1, 0, 2), ch(63, never-1, 1)}},
		{"times have no sign", hands(hd(0, 1, 1<<63), hd(1, 1, 1)), bag.Bag{ch(1, 1, 1), ch(1, 1<<63, 1)}},
		{"a handle on top of 2^59", own{Hands: []claim.Hand{hd(0, 1, 5)}, Held: bag.Bag{ch(1, 5, most), ch(2, 5, 1)}}, bag.Bag{ch(1, 5, most+1), ch(2, 5, 1)}},
	} {
		o, untouched := watched(c.o)
		if got := claim.All(o); !slices.Equal(got, c.want) {
			t.Errorf("%s: All of %v: %v, want %v", c.name, c.o, got, c.want)
		}
		if !untouched() {
			t.Errorf("%s: %v is changed", c.name, c.o)
		}
	}
}

// P7.1: however many there are.
func TestManyHandles(t *testing.T) {
	var o own
	for id := range 100000 {
		o.Hands = append(o.Hands, hd(id, id%64, uint64(1000000-id)))
	}
	all := claim.All(o)
	if len(all) != 100000 || !bag.Right(all) || bag.Least(all, 31) != 1000000-99999 {
		t.Error(len(all))
	}
	if h, ok := claim.Find(o, 99999); !ok || h.Port != 31 {
		t.Error(h, ok)
	}
	then, b, e := claim.Advance(o, 50000, 2000000)
	if h, _ := claim.Find(then, 50000); e != nil || len(b) != 2 || h.Time != 2000000 || len(then.Hands) != 100000 {
		t.Error(b, e)
	}
}

// own makes one of few ports and times, so that many meet.
func (d *dice) own(ports int) own {
	var o own
	for id := -1; id < 8; id++ {
		if d.roll(3) == 0 {
			o.Hands = append(o.Hands, hd(id, d.roll(ports), d.time()))
		}
	}
	for port := range ports {
		for _, time := range times() {
			if d.roll(6) == 0 {
				o.Held = append(o.Held, ch(port, time, pick(d, []int64{1, 1, 2, 3, hold - 1, hold})))
			}
		}
	}
	return o
}

func times() []uint64 {
	return []uint64{0, 1, 2, 5, 1 << 32, 1<<63 - 1, 1 << 63, never - 3, never - 2, never - 1}
}

func (d *dice) time() uint64 { return pick(d, times()) }

// graph makes a small one that may be.
func (d *dice) graph() graph.Graph {
	for {
		g := graph.Graph{Ports: 1 + d.roll(4), Inputs: []int{0}}
		for range d.roll(8) {
			g.Edges = append(g.Edges, graph.Edge{From: d.roll(g.Ports), To: d.roll(g.Ports), Add: pick(d, append(times(), 0, 1, never))})
		}
		if graph.Check(g) == nil {
			return g
		}
	}
}

// changes makes some that Pack may refuse, and most often not.
func (d *dice) changes(o own, ports int) []change {
	var l []change
	for range d.roll(4) {
		x := ch(d.roll(ports), d.time(), pick(d, []int64{1, 1, 2, hold - 1, hold, hold + 1, -1, -2}))
		if len(o.Held) > 0 && d.roll(2) == 0 {
			x = pick(d, o.Held)
			x.Diff = pick(d, []int64{-x.Diff, 1 - x.Diff, -1 - x.Diff, 1, hold - x.Diff, hold - x.Diff + 1})
		}
		l = append(l, x)
	}
	switch d.roll(40) {
	case 0:
		l = append(l, ch(64, 0, 1))
	case 1:
		l = append(l, ch(0, d.time(), most+1))
	case 2:
		l = append(l, ch(ports, d.time(), 1))
	}
	return l
}

// plain says by the document's words what an Update answers: sums without bound, all that is held against each Change.
func plain(o own, paths [][]uint64, l []change) string {
	b, k := batch.Pack(l)
	if k != api.OK {
		return k.Error()
	}
	for i, c := range b {
		there := int64(0)
		letBe := false
		lets := func(port int, time uint64) {
			if port < len(paths) && c.Port < len(paths) && paths[port][c.Port] != never {
				sum := new(big.Int).SetUint64(time)
				sum.Add(sum, new(big.Int).SetUint64(paths[port][c.Port]))
				letBe = letBe || sum.Cmp(new(big.Int).SetUint64(c.Time)) <= 0
			}
		}
		for _, x := range o.Held {
			lets(x.Port, x.Time)
			if x.Port == c.Port && x.Time == c.Time {
				there = x.Diff
			}
		}
		for _, h := range o.Hands {
			lets(h.Port, h.Time)
		}
		at := "change " + strconv.Itoa(i) + ": "
		switch {
		case c.Port >= len(paths):
			return at + "port"
		case c.Diff > 0 && !letBe, c.Diff < 0 && there < -c.Diff:
			return at + "unjustified"
		case there+c.Diff > hold:
			return at + "over"
		}
	}
	return "ok"
}

// P7.1: whatever is held, and is to come or to go.
func TestUpdateAgainstPlainWords(t *testing.T) {
	d := dice(1)
	ended := map[string]int{}
	for range 30000 {
		g := d.graph()
		o, paths := d.own(g.Ports), graph.Paths(g)
		l := d.changes(o, g.Ports)
		want := plain(o, paths, l)
		ended[want]++
		if want != "ok" {
			refuse(t, "plain", o, update(paths, l...), want)
			continue
		}
		b, _ := batch.Pack(l)
		held, k := bag.Apply(o.Held, b)
		if k != api.OK {
			t.Fatal(o, b, k)
		}
		ask(t, "plain", o, update(paths, l...), own{Hands: o.Hands, Held: held}, b)
	}
	for _, word := range []string{"ok", "port", "over", "change 0: unjustified", "change 1: unjustified", "change 0: over", "change 1: over", "change 1: port", "change 2: port"} {
		if ended[word] < 10 {
			t.Errorf("%s was %d times: %v", word, ended[word], ended)
		}
	}
}

// any makes one call, of any kind.
func (d *dice) any(o own, paths [][]uint64) call {
	h := d.roll(9) - 1
	if len(o.Hands) > 0 && d.roll(4) != 0 {
		h = pick(d, o.Hands).Id
	}
	switch d.roll(8) {
	case 0:
		return shut(h)
	case 1, 2:
		return open(h, d.roll(9)-1)
	case 3, 4:
		return advance(h, pick(d, append(times(), never)))
	}
	return update(paths, d.changes(o, len(paths))...)
}

// plainAll counts what is held, one by one.
func plainAll(o own) map[[2]uint64]int64 {
	all := map[[2]uint64]int64{}
	for _, x := range o.Held {
		all[[2]uint64{uint64(x.Port), x.Time}] += x.Diff
	}
	for _, h := range o.Hands {
		all[[2]uint64{uint64(h.Port), h.Time}]++
	}
	return all
}

// P7.1: the Batch is just that by which All is another one, and All is what is held.
func TestBatchIsWhatAllChangesBy(t *testing.T) {
	d := dice(2)
	came := 0
	for range 2000 {
		g := d.graph()
		paths, o := graph.Paths(g), d.own(g.Ports)
		for range 15 {
			ahead := claim.All(o)
			a := d.any(o, paths)(o)
			then := claim.All(a.o)
			want, k := bag.Apply(ahead, a.b)
			if k != api.OK || !slices.Equal(then, want) || !bag.Right(then) || !may(a.o) {
				t.Fatalf("%v to %v by %v (%v): %v", o, a.o, a.b, a.e, k)
			}
			counts := plainAll(a.o)
			for _, x := range then {
				if counts[[2]uint64{uint64(x.Port), x.Time}] != x.Diff {
					t.Fatalf("All of %v is %v", a.o, then)
				}
			}
			if len(counts) != len(then) {
				t.Fatalf("All of %v is %v", a.o, then)
			}
			if a.e == nil {
				came++
			}
			o = a.o
		}
	}
	if came < 10000 {
		t.Errorf("only %d came off", came)
	}
}

// P7.2: of all that is held then each may come from something that was held ahead, and no front goes back; P5: what is refused changes nothing.
func TestNoFrontGoesBack(t *testing.T) {
	d := dice(3)
	moved := 0
	for range 2000 {
		g := d.graph()
		paths, o := graph.Paths(g), d.own(g.Ports)
		for range 25 {
			ahead := claim.All(o)
			kept := copied(o)
			a := d.any(o, paths)(o)
			if a.e != nil && (!same(a.o, kept) || len(a.b) != 0) {
				t.Fatalf("%v to %v by %v, beside %v", kept, a.o, a.b, a.e)
			}
			then := claim.All(a.o)
			for _, x := range then {
				if !comes(ahead, paths, x) {
					t.Fatalf("%v comes from nothing of %v", x, ahead)
				}
			}
			was, is := front.Of(paths, ahead), front.Of(paths, then)
			for port := range is {
				if is[port] < was[port] {
					t.Fatalf("port %d goes back from %d to %d: %v to %v", port, was[port], is[port], ahead, then)
				}
				if is[port] > was[port] {
					moved++
				}
			}
			o = a.o
		}
	}
	if moved < 1000 {
		t.Errorf("fronts went on only %d times", moved)
	}
}

func comes(ahead bag.Bag, paths [][]uint64, x change) bool {
	for _, y := range ahead {
		way := paths[y.Port][x.Port]
		if way != never && way <= x.Time && y.Time <= x.Time-way {
			return true
		}
	}
	return false
}

// P7.4: what is handed in isn't kept, and answers share nothing with it, nor with each other.
func TestNothingIsShared(t *testing.T) {
	o := own{Hands: []claim.Hand{hd(3, 0, 5), hd(4, 1, 6), hd(9, 0, 7)}, Held: bag.Bag{ch(0, 7, 2), ch(1, 9, 3), ch(2, 15, 1)}}
	noHands, noHeld := hands(o.Hands...), held(o.Held...)
	for _, c := range []struct {
		name string
		o    own
		f    call
	}{
		{"open ahead", o, open(3, 1)},
		{"open between", o, open(4, 5)},
		{"open behind", o, open(9, 10)},
		{"open, handles alone", noHands, open(9, 10)},
		{"advance", o, advance(3, 8)},
		{"advance to the same", o, advance(3, 5)},
		{"advance, handles alone", noHands, advance(9, 8)},
		{"close the first", o, shut(3)},
		{"close the last", o, shut(9)},
		{"close, handles alone", noHands, shut(4)},
		{"update by nothing", o, update(line())},
		{"update by nothing, stamps alone", noHeld, update(line())},
		{"update", o, update(line(), ch(0, 8, 1), ch(1, 9, -1))},
		{"update, handles alone", noHands, update(line(), ch(0, 8, 1))},
		{"update, stamps alone", noHeld, update(line(), ch(2, 16, 1), ch(0, 7, -2))},
		{"all goes", noHeld, update(line(), ch(0, 7, -2), ch(1, 9, -3), ch(2, 15, -1))},
	} {
		in, untouched := watched(c.o)
		a := c.f(in)
		if a.e != nil || !untouched() {
			t.Errorf("%s: %v", c.name, a.e)
		}
		wantO, wantB := copied(a.o), slices.Clone(a.b)
		spoil(in.Hands, hd(44, 44, 44))
		spoil(in.Held, ch(44, 44, 44))
		if !same(a.o, wantO) || !slices.Equal(a.b, wantB) {
			t.Errorf("%s: the answer shares with what was handed in", c.name)
		}
		in, untouched = watched(c.o)
		a = c.f(in)
		other := c.f(in)
		spoil(a.o.Hands, hd(44, 44, 44))
		spoil(a.o.Held, ch(44, 44, 44))
		if !untouched() || !same(other.o, wantO) || !slices.Equal(a.b, wantB) {
			t.Errorf("%s: the Own that is answered shares", c.name)
		}
		spoil(a.b, ch(44, 44, 44))
		if !untouched() || !same(other.o, wantO) || !slices.Equal(other.b, wantB) {
			t.Errorf("%s: the Batch that is answered shares", c.name)
		}
	}
}

// P7.4
func TestUpdateKeepsNeitherPathsNorChanges(t *testing.T) {
	o := hands(hd(3, 0, 5))
	for _, l := range [][]change{nil, {ch(0, 5, 1)}, {ch(1, 9, 1), ch(0, 5, 1), ch(1, 9, 2)}, {ch(1, 0, 1), ch(0, 0, 1)}, {ch(2, 50, hold), ch(0, 5, -1), ch(64, 0, 0)}} {
		paths := line()
		for i := range paths {
			paths[i], _ = roomy(paths[i], 99)
		}
		given, whole := roomy(l, ch(11, 11, 11))
		then, b, _ := claim.Update(o, paths, given)
		wantO, wantB := copied(then), slices.Clone(b)
		if !whole() {
			t.Errorf("%v is changed", l)
		}
		for i, row := range line() {
			if !slices.Equal(paths[i], row) || !slices.Equal(paths[i][:len(row)+2][len(row):], []uint64{99, 99}) {
				t.Errorf("paths are changed: %v", paths)
			}
		}
		spoil(given, ch(44, 44, 44))
		if !same(then, wantO) || !slices.Equal(b, wantB) {
			t.Errorf("the answer shares with %v", l)
		}
	}
}

// P7.4
func TestAllIsNewMemory(t *testing.T) {
	for _, o := range []own{
		hands(hd(3, 0, 5), hd(4, 0, 5)), held(ch(0, 7, 2), ch(1, 9, 3)), {Hands: []claim.Hand{hd(3, 0, 5)}, Held: bag.Bag{ch(0, 5, 2)}},
		{Hands: []claim.Hand{hd(3, 0, 4), hd(4, 9, 9)}, Held: bag.Bag{ch(0, 5, 2)}},
	} {
		in, untouched := watched(o)
		all := claim.All(in)
		want := slices.Clone(all)
		spoil(all, ch(44, 44, 44))
		if !untouched() || !slices.Equal(claim.All(in), want) {
			t.Errorf("All of %v shares", o)
		}
		all = claim.All(in)
		spoil(in.Hands, hd(44, 44, 44))
		spoil(in.Held, ch(44, 44, 44))
		if !slices.Equal(all, want) {
			t.Errorf("All of %v shares", o)
		}
	}
}

// P7.1
func TestFresh(t *testing.T) {
	a := claim.Fresh()
	if len(a) != 64 {
		t.Fatal(len(a))
	}
	for i, s := range a {
		if s != (claim.Slot{}) {
			t.Errorf("%d: %v", i, s)
		}
	}
	spoil(a, claim.Slot{Gen: 5, Used: true})
	if b := claim.Fresh(); len(b) != 64 || b[0] != (claim.Slot{}) || b[63] != (claim.Slot{}) {
		t.Error("two Fresh ones share")
	}
}

// taken takes one that there is.
func taken(t *testing.T, x table, want int) table {
	t.Helper()
	given, whole := roomy(x, claim.Slot{Gen: 9, Used: true})
	then, id, ok := claim.Take(given)
	if !ok || id != want || len(then) != len(x) || !whole() {
		t.Fatalf("Take of %v: %v, %d, %v, want %d", x, then, id, ok, want)
	}
	for i, s := range then {
		if took := i == want%64; s != x[i] && !took || took && (x[i].Used || s != claim.Slot{Gen: want / 64, Used: true}) {
			t.Errorf("Take of %v: %v", x, then)
		}
	}
	return then
}

// given gives one back that was taken.
func given(t *testing.T, x table, id int) table {
	t.Helper()
	in, whole := roomy(x, claim.Slot{Gen: 9, Used: true})
	then, ok := claim.Give(in, id)
	if !ok || len(then) != len(x) || !whole() {
		t.Fatalf("Give of %d: %v, %v", id, then, ok)
	}
	for i, s := range then {
		if gave := i == id%64; s != x[i] && !gave || gave && s != (claim.Slot{Gen: id/64 + 1}) {
			t.Errorf("Give of %d: %v", id, then)
		}
	}
	return then
}

// full tells that nothing can be taken.
func full(t *testing.T, x table) {
	t.Helper()
	in, whole := roomy(x, claim.Slot{})
	if then, id, ok := claim.Take(in); ok || id != 0 || !slices.Equal(then, x) || !whole() {
		t.Errorf("Take of %v: %v, %d, %v", x, then, id, ok)
	}
}

// none tells that it can't be given back.
func none(t *testing.T, x table, id int) {
	t.Helper()
	in, whole := roomy(x, claim.Slot{Used: true})
	if then, ok := claim.Give(in, id); ok || !slices.Equal(then, x) || !whole() {
		t.Errorf("Give of %d, %v: %v, %v", id, x, then, ok)
	}
}

// P7.1: a Slot that is given back is taken again, with another Gen, and with all Slots Used there is none.
func TestTakeAndGive(t *testing.T) {
	x := claim.Fresh()
	for _, id := range []int{0, 1, 63, 64, 127, -1, math.MinInt, math.MaxInt} {
		none(t, x, id)
	}
	for id := range 64 {
		x = taken(t, x, id)
	}
	full(t, x)
	x = given(t, x, 7)
	x = taken(t, x, 7+64)
	full(t, x)
	for _, id := range []int{7, 7 + 128, 7 - 64, 64, 64 + 8, -1, -7, -64, -57, math.MinInt, math.MinInt + 71, math.MaxInt} {
		none(t, x, id)
	}
	x = given(t, x, 63)
	x = given(t, x, 7+64)
	none(t, x, 7+64)
	none(t, x, 7+128) // its Gen, but it isn't Used
	none(t, x, 63)
	none(t, x, 63+64)
	x = taken(t, x, 7+128) // the first one that isn't Used
	x = taken(t, x, 63+64)
	full(t, x)
	x = given(t, x, 0)
	x = taken(t, x, 64)
	none(t, x, 0)
	given(t, x, 64)
}

// P7.1: Tables of other lengths, and of Slots that have been round often.
func TestOtherTables(t *testing.T) {
	for _, x := range []table{nil, {}, {{Used: true}}, {{Gen: 4, Used: true}, {Gen: -4, Used: true}}} {
		full(t, x)
	}
	for _, id := range []int{0, 1, 63, 64, -1, math.MaxInt} {
		none(t, nil, id)
		none(t, table{}, id)
	}
	short := table{{Gen: 2, Used: true}, {Gen: 5}}
	for _, id := range []int{0, 64, 192, 1, 1 + 64*5, 2, 63, 128 + 2, -128} {
		none(t, short, id)
	}
	short = taken(t, short, 1+64*5)
	full(t, short)
	short = given(t, short, 128)
	taken(t, short, 192)
	far := table{{Gen: 1<<57 - 1}}
	far = taken(t, far, math.MaxInt-63)
	none(t, far, math.MaxInt)
	given(t, far, math.MaxInt-63)
}

// P7.3
func TestNoIdIsTakenTwice(t *testing.T) {
	d := dice(4)
	for range 20 {
		x := claim.Fresh()
		var used []int
		gone := map[int]bool{}
		for range 3000 {
			if d.roll(2) == 0 {
				then, id, ok := claim.Take(x)
				if ok != (len(used) < 64) || ok && (gone[id] || slices.Contains(used, id) || id < 0) {
					t.Fatalf("%d, %v: it was taken ahead: %v", id, ok, used)
				}
				if ok {
					used = append(used, id)
				}
				x = then
				continue
			}
			id := d.roll(500)
			if len(used) > 0 && d.roll(3) != 0 {
				id = pick(&d, used)
			}
			then, ok := claim.Give(x, id)
			if ok != slices.Contains(used, id) {
				t.Fatalf("Give of %d: %v", id, ok)
			}
			if ok {
				gone[id] = true
				used = slices.DeleteFunc(used, func(n int) bool { return n == id })
			}
			x = then
		}
		if len(gone) < 500 {
			t.Errorf("only %d were given back", len(gone))
		}
	}
}

// P7.4
func TestTablesAreNewMemory(t *testing.T) {
	slot := claim.Slot{Gen: 44, Used: true}
	x, _, _ := claim.Take(claim.Fresh())
	for _, f := range []func(table) table{
		func(x table) table { x, _, _ = claim.Take(x); return x },
		func(x table) table { x, _ = claim.Give(x, 0); return x },
	} {
		in, whole := roomy(x, slot)
		got := f(in)
		want := slices.Clone(got)
		spoil(got, slot)
		if !whole() {
			t.Error("the answer shares")
		}
		got = f(in)
		spoil(in, slot)
		if !slices.Equal(got, want) {
			t.Error("the answer shares")
		}
	}
}

// wild makes an Own of which nothing is promised, but an end.
func (d *dice) wild() own {
	ints := []int{math.MinInt, -1, 0, 1, 2, 63, 64, math.MaxInt}
	diffs := []int64{math.MinInt64, -most - 1, -most, -1, 0, 1, hold, hold + 1, most, most + 1, math.MaxInt64}
	var o own
	for range d.roll(6) {
		o.Hands = append(o.Hands, hd(pick(d, ints), pick(d, ints), pick(d, append(times(), never))))
	}
	for range d.roll(6) {
		o.Held = append(o.Held, ch(pick(d, ints), pick(d, append(times(), never)), pick(d, diffs)))
	}
	return o
}

// P1: whatever is handed in, each call ends, and changes nothing of it.
func TestWrongArgumentsEnd(t *testing.T) {
	d := dice(5)
	rows := [][]uint64{nil, {}, {0}, {never}, {0, 3}, {never, 0}, {0, 1, 2, 3}}
	for range 20000 {
		o, untouched := watched(d.wild())
		var paths [][]uint64
		for range d.roll(5) {
			paths = append(paths, pick(&d, rows))
		}
		l := d.wild().Held
		if d.roll(2) == 0 {
			l = d.changes(o, 1+d.roll(64))
		}
		ids := []int{math.MinInt, -1, 0, 1, 63, 64, math.MaxInt}
		for _, f := range []call{open(pick(&d, ids), pick(&d, ids)), advance(pick(&d, ids), d.time()), shut(pick(&d, ids)), update(paths, l...)} {
			if a := f(o); a.e != nil && (!same(a.o, o) || len(a.b) != 0) {
				t.Fatalf("of %v: %v, %v beside %v", o, a.o, a.b, a.e)
			}
		}
		claim.All(o)
		claim.Find(o, pick(&d, ids))
		if !untouched() {
			t.Fatalf("%v is changed", o)
		}
	}
	gens := []int{math.MinInt, -1, 0, 1, 1<<57 - 1, 1 << 57, 1 << 58, math.MaxInt}
	for range 5000 {
		var x table
		for range d.roll(70) {
			x = append(x, claim.Slot{Gen: pick(&d, gens), Used: d.roll(3) != 0})
		}
		in, whole := roomy(x, claim.Slot{Gen: 3})
		claim.Take(in)
		for _, id := range []int{math.MinInt, -64, -1, 0, 1, 63, 64, math.MaxInt - 63, math.MaxInt} {
			claim.Give(in, id)
		}
		if !whole() {
			t.Fatalf("%v is changed", x)
		}
	}
}

// P1, P5: a Held that isn't Right may be refused by what it is put into, and then stays as it was.
func TestWrongHeldIsRefusedWhole(t *testing.T) {
	refuse(t, "beyond 2^59", own{Hands: []claim.Hand{hd(0, 0, 0)}, Held: bag.Bag{ch(1, 5, most+1)}}, update(line(), ch(0, 3, 1)), "over")
}

// Hands and Slots compare by ==.
func TestHandsAndSlotsCompare(t *testing.T) {
	if a, b := hd(1, 2, 3), hd(1, 2, 3); a != b || a == hd(2, 2, 3) || a == hd(1, 3, 3) || a == hd(1, 2, 4) {
		t.Error(a, b)
	}
	if a, b := (claim.Slot{Gen: 1, Used: true}), (claim.Slot{Gen: 1, Used: true}); a != b || a == (claim.Slot{Gen: 1}) || a == (claim.Slot{Used: true}) {
		t.Error(a, b)
	}
}
