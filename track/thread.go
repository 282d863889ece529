package track

import (
	"marchland/api"
	"marchland/batch"
	"marchland/claim"
	"marchland/fault"
	"marchland/model"
)

// start says what a thread's act does first.
func (a *Act) start() {
	switch a.op.Kind {
	case model.Open:
		a.take(tableLatch, func() { a.unlessShut(a.open) })
	case model.Close:
		a.take(tableLatch, func() { a.unlessShut(a.close) })
	case model.Advance, model.Update:
		a.unlessShut(a.change)
	case model.Shut:
		a.take(bell, a.shut)
	case model.Fronts:
		a.readAll()
	default:
		a.ask()
	}
}

func (a *Act) thread() *thread { return &a.track.threads[a.who] }

// took: it took effect with the access just now.
func (a *Act) took() { a.track.log[a.entry].Mark = a.track.m.Time() }

func (a *Act) refuse(e error) { a.fault, a.answer = e, model.Answer{Err: fault.Kind(e)} }

func (a *Act) finish() {
	a.track.ended(a.entry, a.answer)
	a.end()
}

// unlessShut: what changes what a thread holds takes effect with the look whether it is shut, whatever comes of it.
func (a *Act) unlessShut(then func()) {
	a.load(shutWord, func(shut uint64) {
		a.took()
		if shut != 0 {
			a.refuse(api.ErrClosed)
			a.leave()
			return
		}
		then()
	})
}

// leave: there is nothing to do with the Table any more; what is to be put is put.
func (a *Act) leave() {
	if a.op.Kind == model.Open || a.op.Kind == model.Close {
		a.free(tableLatch, a.putOff)
		return
	}
	a.putOff()
}

// becomes: what the thread holds is another one, by a Batch that is to be put; false: that is refused.
func (a *Act) becomes(own claim.Own, b batch.Batch, e error) bool {
	if e != nil {
		a.refuse(e)
		return false
	}
	a.thread().own, a.put = own, b
	return true
}

// change is Advance and Update.
func (a *Act) change() {
	own, o := a.thread().own, a.op
	if o.Kind == model.Advance {
		a.becomes(claim.Advance(own, o.Hand, o.Time))
	} else {
		a.becomes(claim.Update(own, a.track.paths, o.L))
	}
	a.leave()
}

// open goes to the Table for a handle that there is alone: that there is none goes ahead of that there is no Slot.
func (a *Act) open() {
	own := a.thread().own
	if _, found := claim.Find(own, a.op.Hand); !found {
		a.becomes(claim.Open(own, a.op.Hand, 0))
		a.leave()
		return
	}
	a.seek(nil)
}

// seek looks at the Slot behind those of the Table that it saw, all of which are taken.
func (a *Act) seek(seen claim.Table) {
	place := len(seen)
	a.load(slotWord+place, func(w uint64) {
		table := append(seen, fromWord(w))
		then, id, free := claim.Take(table)
		switch {
		case free:
			a.store(slotWord+place, inWord(then[place]), func() {
				if a.becomes(claim.Open(a.thread().own, a.op.Hand, id)) {
					a.answer.N = id
				}
				a.leave()
			})
		case len(table) < api.MaxHandles:
			a.seek(table)
		default:
			a.refuse(api.ErrFull)
			a.leave()
		}
	})
}

func (a *Act) close() {
	if !a.becomes(claim.Close(a.thread().own, a.op.Hand)) {
		a.leave()
		return
	}
	place := a.op.Hand % api.MaxHandles
	a.load(slotWord+place, func(w uint64) {
		table := claim.Fresh()
		table[place] = fromWord(w)
		then, _ := claim.Give(table, a.op.Hand)
		a.store(slotWord+place, inWord(then[place]), a.leave)
	})
}

// putOff puts what is to be put into the ring, but into the pool behind a Batch of its own that is still there: else the
// drainer might fold the later one ahead of that one.
func (a *Act) putOff() {
	x := a.thread()
	switch {
	case len(a.put) == 0:
		a.finish()
	case x.pooled:
		a.next = func() {
			x.pooled = a.track.pool.Round(a.who) == x.round
			if x.pooled {
				a.pour()
			} else {
				a.push()
			}
		}
	default:
		a.push()
	}
}

func (a *Act) push() {
	entry := a.track.began(a.who, model.Op{Kind: model.Put, Who: a.who})
	push := a.thread().ring.Push(a.who, a.put)
	a.trace(entry, push, func() {
		if !push.Ok() {
			a.track.ended(entry, model.Answer{})
			a.pour()
			return
		}
		a.track.ended(entry, model.Answer{N: 1})
		a.finish()
	})
}

// pour: the Put always comes off, since what a thread changes and wasn't drained is together no more than it may hold.
func (a *Act) pour() {
	entry := a.track.began(a.who, model.Op{Kind: model.Put, Who: a.who, Way: 1})
	put := a.track.pool.Put(a.who, a.put)
	a.trace(entry, put, func() {
		x := a.thread()
		x.pooled, x.round = true, put.Round()
		a.track.ended(entry, model.Answer{N: 1})
		a.finish()
	})
}

// readAll is Fronts.
func (a *Act) readAll() {
	var ports []int
	for port := range a.track.paths {
		ports = append(ports, port)
	}
	read := a.track.shot.Read(a.who, ports)
	a.trace(a.entry, read, func() {
		a.answer.Times = read.Times()
		a.finish()
	})
}

// ask is Done and Wait.
func (a *Act) ask() {
	switch {
	case a.op.Port < 0 || a.op.Port >= len(a.track.paths):
		a.load(shutWord, func(uint64) {
			a.took()
			a.refuse(api.ErrPort)
			a.finish()
		})
	case a.op.Kind == model.Wait:
		a.wait()
	default:
		read := a.track.shot.Read(a.who, []int{a.op.Port})
		a.trace(a.entry, read, func() {
			if a.goneBy(read.Times()) {
				a.answer.N = 1
			}
			a.finish()
		})
	}
}

// goneBy: is what is shown of its port above its Time?
func (a *Act) goneBy(times []uint64) bool { return len(times) > 0 && times[0] > a.op.Time }

// wait looks with the bell's latch: nobody wakes between its look and its sleep, so that it never sleeps over what it waits
// for.
func (a *Act) wait() {
	a.take(bell, func() {
		a.load(shutWord, func(shut uint64) {
			if shut != 0 {
				a.took()
				a.refuse(api.ErrClosed)
				a.free(bell, a.finish)
				return
			}
			a.watch()
		})
	})
}

// watch reads what is shown: of a Wait only a Read by which the time has gone by is its Mark.
func (a *Act) watch() {
	read := a.track.shot.Read(a.who, []int{a.op.Port})
	a.follow(read, func() {
		if !a.goneBy(read.Times()) {
			a.next = func() {
				a.track.m.Sleep(a.who, bell)
				a.wait()
			}
			return
		}
		a.track.log[a.entry].Mark = read.Mark()
		a.answer.N = 1
		a.free(bell, a.finish)
	})
}

func (a *Act) shut() {
	a.store(shutWord, 1, func() {
		a.took()
		a.wakeAll(a.finish)
	})
}
