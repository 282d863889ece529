package track

import (
	"slices"

	"marchland/batch"
	"marchland/model"
)

// Act is something that is being done. Its next makes one access, and says what is next then; there is none, when it is
// over. Of what a thread does there is its Entry's place in the Log, what is to be put, and what comes of it.
type Act struct {
	track  *Track
	who    int
	op     model.Op
	entry  int
	next   func()
	put    batch.Batch
	answer model.Answer
	fault  error
	folded batch.Batch
}

// part is an act of a layer below.
type part interface {
	Step() bool
	Mark() int
}

// Step: it goes on; Over; Asleep: does it wait to be woken? Answer, Fault: what came of it; Folded: what a Sweep folded.
func (a *Act) Step() bool {
	if a.Over() {
		return true
	}
	if a.Asleep() {
		return false
	}
	a.next()
	return a.Over()
}

func (a *Act) Over() bool { return a == nil || a.next == nil }

func (a *Act) Asleep() bool { return a != nil && a.track != nil && a.track.m.Asleep(a.who) }

func (a *Act) Answer() model.Answer {
	if a == nil || !a.Over() {
		return model.Answer{}
	}
	answer := a.answer
	answer.Times = slices.Clone(answer.Times)
	return answer
}

func (a *Act) Fault() error {
	if a == nil || !a.Over() {
		return nil
	}
	return a.fault
}

func (a *Act) Folded() batch.Batch {
	if a == nil || !a.Over() {
		return nil
	}
	return slices.Clone(a.folded)
}

// take tries, till the latch is the act's.
func (a *Act) take(latch int, then func()) {
	a.next = func() {
		if a.track.m.Take(a.who, latch) {
			then()
		}
	}
}

func (a *Act) free(latch int, then func()) {
	a.next = func() {
		a.track.m.Free(a.who, latch)
		then()
	}
}

func (a *Act) load(word int, then func(v uint64)) {
	a.next = func() { then(a.track.m.Load(a.who, word)) }
}

func (a *Act) store(word int, v uint64, then func()) {
	a.next = func() {
		a.track.m.Store(a.who, word, v)
		then()
	}
}

// wakeAll: whoever sleeps by the bell is woken, with its latch.
func (a *Act) wakeAll(then func()) {
	a.next = func() {
		a.track.m.Wake(a.who, bell)
		a.free(bell, then)
	}
}

func (a *Act) follow(p part, then func()) {
	a.next = func() {
		if p.Step() {
			then()
		}
	}
}

// trace follows what is an Entry. Its Mark is told at once, since others may see what it did while it still goes on.
func (a *Act) trace(entry int, p part, then func()) {
	a.next = func() {
		over := p.Step()
		a.track.log[entry].Mark = p.Mark()
		if over {
			then()
		}
	}
}

// end lets its who begin something else.
func (a *Act) end() {
	a.next = nil
	a.track.busy[a.who] = false
}
