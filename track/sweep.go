package track

import (
	"marchland/batch"
	"marchland/model"
)

// drain takes the pool ahead of the rings: whatever a thread put into its ring ahead of what is in the pool is popped then,
// so that of each thread nothing is folded without what it did ahead.
func (a *Act) drain() {
	t := a.track
	entry := t.began(a.who, model.Op{Kind: model.Drain})
	drain := t.pool.Drain(a.who)
	a.trace(entry, drain, func() {
		a.folded = drain.Batch()
		t.ended(entry, model.Answer{N: len(a.folded)})
		a.pop(0, 0)
	})
}

// pop takes the next one from a thread's ring, of which so many were popped. As many as there is room for are all that
// were there at the Drain: with more of them a thread that goes on and on would hold the drainer up.
func (a *Act) pop(who, many int) {
	t := a.track
	if many == t.room {
		who, many = who+1, 0
	}
	if who == len(t.threads) {
		a.show()
		return
	}
	entry := t.began(a.who, model.Op{Kind: model.Pop, Who: who})
	pop := t.threads[who].ring.Pop(a.who)
	a.trace(entry, pop, func() {
		if !pop.Ok() {
			t.ended(entry, model.Answer{})
			a.pop(who+1, 0)
			return
		}
		// Threads hold so little that no sum is too great.
		a.folded, _ = batch.Merge(a.folded, pop.Batch())
		t.ended(entry, model.Answer{N: 1})
		a.pop(who, many+1)
	})
}

// show: of each thread just the first so many of its Batches are folded, so that no count is below 0 and nothing is refused.
func (a *Act) show() {
	t := a.track
	t.reach.Apply(a.folded)
	fronts := t.reach.Fronts()
	entry := t.began(a.who, model.Op{Kind: model.Show})
	a.trace(entry, t.shot.Publish(a.who, fronts), func() {
		t.ended(entry, model.Answer{Times: fronts})
		a.take(bell, func() { a.wakeAll(a.end) })
	})
}
