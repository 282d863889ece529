package model_test

import (
	"cmp"
	"maps"
	"slices"
	"strconv"
	"testing"

	"marchland/api"
	"marchland/batch"
	"marchland/claim"
	"marchland/front"
	"marchland/graph"
	"marchland/model"
)

// point is a port and a time; counts are how many there are of each, or by how much there are more.
type point struct {
	port int
	time uint64
}

type counts map[point]int64

func (c counts) add(more counts) {
	for p, n := range more {
		c[p] += n
		if c[p] == 0 {
			delete(c, p)
		}
	}
}

func (c counts) list() []change {
	var l []change
	for p, n := range c {
		l = append(l, ch(p.port, p.time, n))
	}
	slices.SortFunc(l, func(a, b change) int { return cmp.Or(cmp.Compare(a.Port, b.Port), cmp.Compare(a.Time, b.Time)) })
	return l
}

// plain is what a Model is to be like, by maps, and without any of the layers below but how long ways take.
type plain struct {
	p                    model.Plan
	paths                [][]uint64
	used                 [64]bool
	gen                  [64]int
	hands                []map[int]claim.Hand
	held                 []counts
	off, rings           [][]counts
	pool, staged, folded counts
	shown                []uint64
	shut                 bool
}

func plainOf(p model.Plan) *plain {
	m := &plain{p: p, paths: graph.Paths(p.Graph), off: make([][]counts, p.Threads), rings: make([][]counts, p.Threads)}
	for range p.Threads {
		m.hands, m.held = append(m.hands, map[int]claim.Hand{}), append(m.held, counts{})
	}
	for i, port := range p.Graph.Inputs {
		m.used[i] = true
		m.hands[i%p.Threads][i] = hd(i, port, 0)
	}
	m.pool, m.staged, m.folded = counts{}, counts{}, m.all()
	m.shown = make([]uint64, p.Graph.Ports)
	return m
}

func (m *plain) holds(who int) counts {
	c := maps.Clone(m.held[who])
	for _, h := range m.hands[who] {
		c[point{h.Port, h.Time}]++
	}
	return c
}

func (m *plain) all() counts {
	c := counts{}
	for who := range m.p.Threads {
		c.add(m.holds(who))
	}
	return c
}

func (m *plain) own(who int) claim.Own {
	l := slices.SortedFunc(maps.Values(m.hands[who]), func(a, b claim.Hand) int { return cmp.Compare(a.Id, b.Id) })
	return claim.Own{Hands: l, Held: m.held[who].list()}
}

func (m *plain) state() state {
	s := state{all: m.all().list(), folded: m.folded.list(), shown: m.shown, closed: m.shut}
	for who := range m.p.Threads {
		s.owns = append(s.owns, m.own(who))
		s.waiting = append(s.waiting, len(m.off[who])+len(m.rings[who]))
	}
	return s
}

// later is t and s, if there is such a time.
func later(t, s uint64) (uint64, bool) { return t + s, t+s >= t && t+s != never && s != never }

func (m *plain) fronts() []uint64 {
	l := slices.Repeat([]uint64{never}, m.p.Graph.Ports)
	for p := range m.folded {
		for to := range l {
			if t, ok := later(p.time, m.paths[p.port][to]); ok {
				l[to] = min(l[to], t)
			}
		}
	}
	return l
}

func (m *plain) do(o op) answer {
	thread := o.Who >= 0 && o.Who < m.p.Threads
	switch {
	case o.Kind == model.Drain:
		n := len(m.pool)
		m.staged.add(m.pool)
		m.pool = counts{}
		return answer{N: n}
	case o.Kind == model.Show:
		return m.show()
	case o.Kind < 0 || o.Kind > model.Show || !thread:
		return wrong
	case o.Kind <= model.Update && m.shut:
		return no(api.ErrClosed)
	case o.Kind <= model.Update:
		c, a := m.change(o)
		if len(c) > 0 {
			m.off[o.Who] = append(m.off[o.Who], c)
		}
		return a
	case o.Kind == model.Put:
		return m.put(o)
	case o.Kind == model.Pop:
		if len(m.rings[o.Who]) == 0 {
			return answer{}
		}
		m.staged.add(m.rings[o.Who][0])
		m.rings[o.Who] = m.rings[o.Who][1:]
		return answer{N: 1}
	}
	return m.look(o)
}

func (m *plain) show() answer {
	then := maps.Clone(m.folded)
	then.add(m.staged)
	for _, n := range then {
		if n < 0 {
			return no(api.ErrState)
		}
	}
	m.folded, m.staged = then, counts{}
	m.shown = m.fronts()
	return times(m.shown...)
}

func (m *plain) put(o op) answer {
	if len(m.off[o.Who]) == 0 {
		return no(api.ErrNone)
	}
	first := m.off[o.Who][0]
	switch {
	case o.Way != 0:
		m.pool.add(first)
	case len(m.rings[o.Who]) == m.p.Ring:
		return answer{}
	default:
		m.rings[o.Who] = append(m.rings[o.Who], first)
	}
	m.off[o.Who] = m.off[o.Who][1:]
	return answer{N: 1}
}

func (m *plain) look(o op) answer {
	switch {
	case o.Kind == model.Shut:
		m.shut = true
		return answer{}
	case o.Kind == model.Fronts:
		return times(m.shown...)
	case o.Port < 0 || o.Port >= m.p.Graph.Ports:
		return no(api.ErrPort)
	case o.Kind == model.Wait && m.shut:
		return no(api.ErrClosed)
	case m.shown[o.Port] > o.Time:
		return answer{N: 1}
	}
	return answer{}
}

func (m *plain) change(o op) (counts, answer) {
	h, ok := m.hands[o.Who][o.Hand]
	switch {
	case o.Kind == model.Update:
		return m.update(o)
	case !ok:
		return nil, no(api.ErrStale)
	case o.Kind == model.Open:
		return m.open(o, h)
	case o.Kind == model.Close:
		delete(m.hands[o.Who], o.Hand)
		m.used[o.Hand%64] = false
		m.gen[o.Hand%64]++
		return counts{{h.Port, h.Time}: -1}, answer{}
	case o.Time == never:
		return nil, no(api.ErrArg)
	case o.Time < h.Time:
		return nil, no(api.ErrBack)
	}
	c := counts{{h.Port, h.Time}: -1}
	c.add(counts{{h.Port, o.Time}: 1})
	h.Time = o.Time
	m.hands[o.Who][o.Hand] = h
	return c, answer{}
}

func (m *plain) open(o op, h claim.Hand) (counts, answer) {
	for i := range m.used {
		if !m.used[i] {
			m.used[i] = true
			id := i + 64*m.gen[i]
			m.hands[o.Who][id] = hd(id, h.Port, h.Time)
			return counts{{h.Port, h.Time}: 1}, answer{N: id}
		}
	}
	return nil, no(api.ErrFull)
}

func (m *plain) update(o op) (counts, answer) {
	if len(o.L) > 16 {
		return nil, no(api.ErrMany)
	}
	c := counts{}
	for _, x := range o.L {
		switch {
		case x.Port < 0 || x.Port > 63:
			return nil, no(api.ErrPort)
		case x.Time == never:
			return nil, no(api.ErrArg)
		}
		c.add(counts{{x.Port, x.Time}: x.Diff})
	}
	for _, x := range c.list() {
		if e := m.against(o.Who, x); e != api.OK {
			return nil, no(e)
		}
	}
	m.held[o.Who].add(c)
	return c, answer{}
}

func (m *plain) against(who int, x change) api.Errno {
	then := m.held[who][point{x.Port, x.Time}] + x.Diff
	switch {
	case x.Port >= m.p.Graph.Ports:
		return api.ErrPort
	case x.Diff > 0 && !m.letBe(who, x), then < 0:
		return api.ErrUnjustified
	case then > hold:
		return api.ErrOver
	}
	return api.OK
}

func (m *plain) letBe(who int, x change) bool {
	for p := range m.holds(who) {
		if t, ok := later(p.time, m.paths[p.port][x.Port]); ok && t <= x.Time {
			return true
		}
	}
	return false
}

// some is a plan of a few threads and ports.
func some(d *dice) model.Plan {
	p := model.Plan{Threads: 1 + d.roll(3), Ring: 1 << d.roll(3), Shards: 1 + d.roll(8), Tries: 1 + d.roll(8)}
	p.Graph.Ports = 1 + d.roll(4)
	for range d.roll(6) {
		x := graph.Edge{From: d.roll(p.Graph.Ports), To: d.roll(p.Graph.Ports), Add: uint64(d.roll(3))}
		if x.Add == 0 && x.To <= x.From {
			x.Add = 1
		}
		p.Graph.Edges = append(p.Graph.Edges, x)
	}
	for port := range p.Graph.Ports {
		if port == 0 || d.roll(2) == 0 {
			p.Graph.Inputs = append(p.Graph.Inputs, port)
		}
	}
	slices.Reverse(p.Graph.Inputs)
	return p
}

// oneOf is an Id of a handle that who has, or now and then any number.
func oneOf(d *dice, m *model.Model, who int) int {
	hands := m.Own(who).Hands
	if len(hands) == 0 || d.roll(12) == 0 {
		return d.roll(200) - 10
	}
	return pick(d, hands).Id
}

// soon is a time not far ahead; now and then there is none.
func soon(d *dice, n int) uint64 {
	if d.roll(40) == 0 {
		return never
	}
	return uint64(n/8 + d.roll(10))
}

// changes are some that mostly may be.
func changes(d *dice, m *model.Model, who, ports, n int) []change {
	var l []change
	for range d.roll(4) {
		x := ch(d.roll(ports), soon(d, n), int64(1+d.roll(3)))
		if held := m.Own(who).Held; len(held) > 0 && d.roll(2) == 0 {
			x = pick(d, held)
			x.Diff = -1 - int64(d.roll(int(min(x.Diff, 4))))
		}
		if d.roll(30) == 0 {
			x.Port = d.roll(80) - 8
		}
		if d.roll(30) == 0 {
			x.Diff = hold - int64(d.roll(3))
		}
		l = append(l, x)
	}
	if d.roll(40) == 0 {
		return slices.Repeat([]change{ch(0, soon(d, n), 1)}, 16+d.roll(3))
	}
	return l
}

// thing is one to do, the n-th one; kinds are those of which there are to be more.
func thing(d *dice, m *model.Model, p model.Plan, n int, kinds []int) op {
	o := op{Kind: pick(d, kinds), Who: d.roll(p.Threads), Port: d.roll(p.Graph.Ports), Time: soon(d, n), Way: d.roll(3) - 1}
	switch d.roll(60) {
	case 0:
		o.Kind = d.roll(20) - 4
	case 1:
		o.Who = d.roll(14) - 4
	case 2:
		o.Port = d.roll(80) - 8
	}
	o.Hand = oneOf(d, m, o.Who)
	o.L = changes(d, m, o.Who, p.Graph.Ports, n)
	return o
}

// act is one that a thread does of itself: its Puts, and what the drainer does, are left to a keeper.
func act(d *dice, m *model.Model, p model.Plan, n int, kinds []int) op {
	o := thing(d, m, p, n, kinds)
	for o.Kind > model.Shut {
		o = thing(d, m, p, n, kinds)
	}
	return o
}

// often are the Kinds, each as often as it is to come; a Shut comes seldom, or all that is behind it is alike.
func often(d *dice) []int {
	l := []int{0, 1, 1, 1, 2, 3, 3, 3, 4, 5, 5, 6, 6, 8, 8, 8, 8, 8, 9, 10, 10, 11}
	if d.roll(4) == 0 {
		l = append(l, model.Shut)
	}
	switch d.roll(4) {
	case 0:
		l = append(l, slices.Repeat([]int{model.Open}, 30)...)
	case 1:
		l = slices.DeleteFunc(l, func(k int) bool { return k == model.Close })
	}
	return l
}

// P14.1, P5: whatever is done, right or wrong, is held against the plain one, answer by answer, and all that is to be seen.
func TestPlain(t *testing.T) {
	came := map[string]int{}
	for seed := range 400 {
		d := dice(seed)
		p := some(&d)
		m, want := made(t, p), plainOf(p)
		kinds := often(&d)
		for n := range 250 {
			o := thing(&d, m, p, n, kinds)
			before := seen(m, p.Threads)
			a, b := m.Do(o), want.do(o)
			if !same(a, b) {
				t.Fatalf("seed %d, %d: %v: %v, want %v", seed, n, o, a, b)
			}
			after := seen(m, p.Threads)
			if !sameState(after, want.state()) {
				t.Fatalf("seed %d, %d: %v: %v, want %v", seed, n, o, after, want.state())
			}
			if a.Err != api.OK && !sameState(before, after) {
				t.Fatalf("seed %d, %d: %v is refused: %v is made %v", seed, n, o, before, after)
			}
			if o.Kind >= 0 && o.Kind <= 11 {
				came[strconv.Itoa(o.Kind)+" "+a.Err.Error()]++
			}
		}
	}
	all(t, came)
}

// all: each of the answers' errors came, of each Kind.
func all(t *testing.T, came map[string]int) {
	for kind, errors := range [][]string{
		{"ok", "closed", "stale", "full", "argument"},
		{"ok", "closed", "stale", "argument", "back"},
		{"ok", "closed", "stale", "argument"},
		{"ok", "closed", "many", "port", "argument", "unjustified", "over"},
		{"ok", "argument"},
		{"ok", "argument", "port"},
		{"ok", "argument", "port", "closed"},
		{"ok", "argument"},
		{"ok", "argument", "none"},
		{"ok"},
		{"ok", "argument"},
		{"ok", "state"},
	} {
		for _, e := range errors {
			if came[strconv.Itoa(kind)+" "+e] == 0 {
				t.Errorf("of the Kind %d there was no %s", kind, e)
			}
		}
	}
}

// keeper puts as the document asks: at once, and into the ring just if no batch of the thread is in the pool.
type keeper struct {
	t      *testing.T
	m      *model.Model
	p      model.Plan
	paths  [][]uint64
	inPool []bool
	held   []uint64
}

func kept(t *testing.T, p model.Plan) *keeper {
	k := &keeper{t: t, m: made(t, p), p: p, paths: graph.Paths(p.Graph), inPool: make([]bool, p.Threads), held: make([]uint64, p.Graph.Ports)}
	k.look()
	return k
}

// look: no front of all that is held goes back, and what is shown is never above these: so not above any later one, either.
func (k *keeper) look() {
	k.t.Helper()
	fronts := front.Of(k.paths, k.m.All())
	for port, time := range fronts {
		if time < k.held[port] {
			k.t.Fatalf("the front of %d goes back from %d to %d", port, k.held[port], time)
		}
		if told := k.m.Shown()[port]; told > time {
			k.t.Fatalf("shown of %d is %d, but %d may come", port, told, time)
		}
	}
	k.held = fronts
}

func (k *keeper) do(o op) answer {
	k.t.Helper()
	a := k.m.Do(o)
	k.look()
	for k.m.Waiting(o.Who) > 0 && k.put(o.Who) {
	}
	return a
}

// put puts what a thread put off, if it did; false: nothing is any more.
func (k *keeper) put(who int) bool {
	way := 0
	if k.inPool[who] {
		way = 1
	}
	a := k.m.Do(put(who, way))
	if a.Err == api.OK && a.N == 0 {
		a, way = k.m.Do(put(who, 1)), 1
	}
	k.look()
	if a.Err == api.ErrNone {
		return false
	}
	if a.N != 1 {
		k.t.Fatalf("Put: %v", a)
	}
	k.inPool[who] = way == 1
	return true
}

// sweep goes round: a Drain, Pops of each ring till it is empty, a Show; between does what may come between.
func (k *keeper) sweep(between func()) {
	k.t.Helper()
	k.m.Do(drain)
	clear(k.inPool)
	k.look()
	between()
	for who := range k.p.Threads {
		for k.m.Do(pop(who)).N == 1 {
			k.look()
			between()
		}
	}
	between()
	a := k.m.Do(show)
	if a.Err != api.OK || !slices.Equal(a.Times, k.m.Shown()) {
		k.t.Fatalf("Show: %v", a)
	}
	k.look()
}

// P14.2, P3: whatever threads do, between two sweeps and in the midst of one.
func TestKept(t *testing.T) {
	gone := 0
	for seed := range 300 {
		d := dice(seed + 7777)
		p := some(&d)
		k := kept(t, p)
		kinds := []int{0, 1, 1, 1, 1, 2, 3, 3, 3, 5, 6}
		n := 0
		one := func() {
			n++
			o := act(&d, k.m, p, n, kinds)
			if a := k.do(o); o.Kind == model.Done || o.Kind == model.Wait {
				gone += max(a.N, 0)
			}
		}
		for range 40 {
			for range d.roll(9) {
				one()
			}
			k.sweep(func() {
				if d.roll(3) == 0 {
					one()
				}
			})
		}
	}
	if gone < 1000 {
		t.Errorf("only %d times were told to have gone by", gone)
	}
}

// P14.2: all that is held is shown, when all is at rest.
func TestRest(t *testing.T) {
	for seed := range 100 {
		d := dice(seed + 99)
		k := kept(t, some(&d))
		for n := range 60 {
			k.do(act(&d, k.m, k.p, n, []int{0, 1, 1, 1, 2, 3, 3, 3}))
			if d.roll(10) == 0 {
				k.sweep(func() {})
			}
		}
		k.sweep(func() {})
		if !slices.Equal(k.m.Folded(), k.m.All()) || !slices.Equal(k.m.Shown(), k.held) {
			t.Fatalf("seed %d: folded %v, shown %v, held %v", seed, k.m.Folded(), k.m.Shown(), k.m.All())
		}
	}
}

// P5: what a thread is answered hangs on neither how small rings are, nor how many shards, or tries.
func TestRoomTellsNothing(t *testing.T) {
	for seed := range 60 {
		d := dice(seed + 31)
		p := some(&d)
		var l []*keeper
		for _, size := range []int{1, 2, 8, 64} {
			p.Ring, p.Shards, p.Tries = size, 1+size%8, 1+size/16
			l = append(l, kept(t, p))
		}
		for n := range 120 {
			o := act(&d, l[0].m, p, n, []int{0, 1, 1, 2, 3, 3, 4, 5, 6})
			want := l[0].do(o)
			for _, k := range l[1:] {
				if a := k.do(o); !same(a, want) {
					t.Fatalf("seed %d, %d: %v: with %d it is %v, with 1 %v", seed, n, o, k.p.Ring, a, want)
				}
			}
			if d.roll(12) > 0 {
				continue
			}
			for _, k := range l {
				k.sweep(func() {})
			}
		}
	}
}

// P14.3: a plan that is changed behind New; one with things in the spare room of its lists.
func TestPlanIsntKept(t *testing.T) {
	p := two()
	e, wholeEdges := roomy(p.Graph.Edges, graph.Edge{From: 5, To: 5, Add: 5})
	inputs, wholeInputs := roomy(p.Graph.Inputs, 9)
	p.Graph.Edges, p.Graph.Inputs = e, inputs
	if model.Check(p) != nil {
		t.Fatal(model.Check(p))
	}
	m := made(t, p)
	for _, o := range []op{advance(0, 0, 5), update(0, ch(1, 9, 1)), put(0, 0), put(0, 1), drain, pop(0), show} {
		m.Do(o)
	}
	if !wholeEdges() || !wholeInputs() {
		t.Error("the plan is changed")
	}
	spoil(e, graph.Edge{From: 1, To: 0})
	spoil(inputs, 1)
	do(t, m, update(0, ch(1, 7, 1)), no(api.ErrUnjustified))
	do(t, m, show, times(5, 0))
	do(t, m, advance(1, 1, 11), answer{})
	shows(t, m, 1, 5, 8)
}

// P14.3: a list of changes neither.
func TestListIsntKept(t *testing.T) {
	m := made(t, two())
	l, whole := roomy([]change{ch(1, 9, 2), ch(0, 7, 1), ch(1, 9, -1)}, ch(1, 1, 1))
	do(t, m, op{Kind: model.Update, L: l}, answer{})
	if !whole() {
		t.Errorf("%v is changed", l)
	}
	spoil(l, ch(0, 0, 99))
	owns(t, m, 0, []claim.Hand{hd(0, 0, 0)}, ch(0, 7, 1), ch(1, 9, 1))
	shows(t, m, 0, 0, 0)
	bags(t, "folded", m.Folded(), ch(0, 0, 1), ch(0, 7, 1), ch(1, 0, 1), ch(1, 9, 1))
}

// spoilAll asks for all that there is, and overwrites it.
func spoilAll(m *model.Model, threads int) {
	for who := range threads {
		o := m.Own(who)
		spoil(o.Hands, hd(9, 9, 9))
		spoil(o.Held, ch(9, 9, 9))
	}
	for _, b := range []batch.Batch{m.All(), m.Folded()} {
		spoil(b, ch(9, 9, 9))
	}
	spoil(m.Shown(), 99)
	spoil(m.Do(op{Kind: model.Fronts}).Times, 99)
}

// P14.3: whoever writes over answers changes nothing, and no answer of before is changed by what is done.
func TestAnswersAreNew(t *testing.T) {
	for seed := range 60 {
		d := dice(seed + 5)
		p := some(&d)
		m, want := made(t, p), plainOf(p)
		for n := range 80 {
			o := thing(&d, m, p, n, []int{0, 1, 1, 2, 3, 3, 4, 8, 8, 8, 9, 10, 11})
			old := seen(m, p.Threads)
			then := want.state()
			a := m.Do(o)
			if !sameState(old, then) {
				t.Fatalf("seed %d, %d: %v changed %v to %v", seed, n, o, then, old)
			}
			want.do(o)
			spoil(a.Times, 99)
			spoilAll(m, p.Threads)
			if s := seen(m, p.Threads); !sameState(s, want.state()) {
				t.Fatalf("seed %d, %d: %v: %v, want %v", seed, n, o, s, want.state())
			}
		}
	}
}
