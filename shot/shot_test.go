package shot_test

import (
	"math"
	"slices"
	"testing"

	"marchland/api"
	"marchland/mem"
	"marchland/shot"
)

// publisher is who publishes, peeker who looks at words ahead of their time, where nothing else is said.
const (
	publisher = 7
	peeker    = 99
)

// dice is a row of numbers that is the same each time.
type dice uint64

func (d *dice) roll(n int) int {
	*d = *d*6364136223846793005 + 1442695040888963407
	return int(uint64(*d)>>33) % n
}

// upTo is 0, 1, .. n less 1.
func upTo(n int) []int {
	l := make([]int, n)
	for i := range l {
		l[i] = i
	}
	return l
}

// kit is a Shot in a Mem of no more than it needs, but a latch to sleep by (the last one).
type kit struct {
	t            *testing.T
	m            *mem.Mem
	s            *shot.Shot
	ports, tries int
}

func made(t *testing.T, ports, tries int) *kit {
	t.Helper()
	m, e := mem.New(ports+1, 0, 2)
	if e != api.OK {
		t.Fatal(e)
	}
	s, e := shot.New(m, 0, 0, ports, tries)
	if e != api.OK || s == nil {
		t.Fatalf("New of %d ports, %d tries: %v", ports, tries, e)
	}
	return &kit{t, m, s, ports, tries}
}

// end steps an act till it is over: by nobody else's way that is so within 256 Steps (P13.3).
func (k *kit) end(a *shot.Act) *shot.Act {
	k.t.Helper()
	if a == nil {
		k.t.Fatal("there is no act")
	}
	for i := 1; !a.Step(); i++ {
		if i == 256 {
			k.t.Fatalf("it isn't over within 256 Steps: %v", k.m.Log())
		}
	}
	return a
}

// times is some for each port, other ones for each n.
func (k *kit) times(n int) []uint64 {
	l := make([]uint64, k.ports)
	for i := range l {
		l[i] = uint64(n*1000 + i + 1)
	}
	return l
}

func (k *kit) publish(times []uint64) *shot.Act {
	k.t.Helper()
	a := k.end(k.s.Publish(publisher, times))
	if a.Mark() == 0 || len(a.Times()) != 0 || a.Vain() != 0 {
		k.t.Fatalf("Publish: %d, %v, %d", a.Mark(), a.Times(), a.Vain())
	}
	return a
}

// read holds a Read that nobody meets against what there is of all ports.
func (k *kit) read(ports []int, all []uint64) *shot.Act {
	k.t.Helper()
	a := k.end(k.s.Read(0, ports))
	if a.Mark() == 0 || !slices.Equal(a.Times(), of(all, ports)) || a.Vain() != 0 {
		k.t.Fatalf("Read of %v: %v, %d, want %v", ports, a.Times(), a.Vain(), of(all, ports))
	}
	return a
}

// of is what all has at some ports.
func of(all []uint64, ports []int) []uint64 {
	var l []uint64
	for _, port := range ports {
		l = append(l, all[port])
	}
	return l
}

func (k *kit) free() {
	k.t.Helper()
	for l := range 2 {
		if k.m.Holder(l) != -1 {
			k.t.Fatalf("latch %d is %d's: %v", l, k.m.Holder(l), k.m.Log())
		}
	}
}

// lists are such as a Read may be of: of one port, of all, back again, with ports twice, of 64.
func (k *kit) lists() [][]int {
	all := upTo(k.ports)
	back := slices.Clone(all)
	slices.Reverse(back)
	last := k.ports - 1
	l := [][]int{{0}, {last}, {k.ports / 2}, all, back, {last, 0}, {0, 0}, {last, 0, last, last}, slices.Repeat([]int{last}, 64)}
	return append(l, slices.Repeat(back, 64/k.ports))
}

// P13.1: the document's example.
func TestExample(t *testing.T) {
	k := made(t, 2, 1)
	k.read([]int{1, 0}, []uint64{0, 0})
	k.publish([]uint64{5, 9})
	if a := k.read([]int{1, 0}, []uint64{5, 9}); !slices.Equal(a.Times(), []uint64{9, 5}) {
		t.Error(a.Times())
	}
}

// P13.1
func TestWords(t *testing.T) {
	for ports := -200; ports <= 200; ports++ {
		want := 0
		if ports >= 1 && ports <= 64 {
			want = ports + 1
		}
		if got := shot.Words(ports); got != want {
			t.Errorf("Words(%d) = %d", ports, got)
		}
	}
	for _, ports := range []int{math.MinInt, math.MaxInt, 1 << 32, 1<<32 + 4, math.MinInt + 4} {
		if shot.Words(ports) != 0 {
			t.Errorf("Words(%d)", ports)
		}
	}
}

// P13.1, P1
func TestNew(t *testing.T) {
	m, _ := mem.New(100, 0, 100)
	for ports := 1; ports <= 64; ports++ {
		for tries := 1; tries <= 8; tries++ {
			for _, at := range []int{0, 1, 11} {
				if s, e := shot.New(m, at, at+1, ports, tries); s == nil || e != api.OK {
					t.Errorf("New of %d ports, %d tries: %v", ports, tries, e)
				}
			}
		}
	}
	refused := func(m *mem.Mem, word, latch, ports, tries int) {
		t.Helper()
		if s, e := shot.New(m, word, latch, ports, tries); s != nil || e != api.ErrArg {
			t.Errorf("New at %d, %d of %d ports, %d tries: %v", word, latch, ports, tries, e)
		}
	}
	for _, n := range []int{math.MinInt, -64, -1, 0, 65, 66, 128, 1 << 32, 1<<32 + 1, math.MaxInt} {
		refused(m, 0, 0, n, 1)
		refused(m, 0, 0, n, 8)
		refused(m, 0, 0, 1, n)
		refused(m, 0, 0, 64, n)
		refused(m, 0, 0, n, n)
	}
	refused(m, 0, 0, 1, 9)
	refused(m, 0, 0, 64, 9)
	for _, below := range []int{-1, -2, math.MinInt} {
		refused(m, below, 0, 4, 4)
		refused(m, 0, below, 4, 4)
		refused(m, below, below, 4, 4)
		refused(nil, below, below, 0, 0)
	}
	refused(nil, 0, 0, 4, 4)
	if m.Time() != 0 {
		t.Error("New makes an access")
	}
}

// P13.1: ahead of any Publish all times are 0; then they are those of the last one, for whoever reads, whichever ports.
func TestPublishAndRead(t *testing.T) {
	for _, ports := range []int{1, 2, 3, 63, 64} {
		for _, tries := range []int{1, 2, 8} {
			k := made(t, ports, tries)
			all := make([]uint64, ports)
			for n := range 4 {
				for _, l := range k.lists() {
					k.read(l, all)
				}
				k.free()
				all = k.times(n)
				if n == 2 {
					// Times may go back, and be any.
					all = slices.Repeat([]uint64{api.Never}, ports)
					all[ports/2] = 0
				}
				k.publish(all)
				k.free()
			}
		}
	}
}

// P13.1, P5: what may not be is no act, and changes nothing.
func TestWhatMayNotBe(t *testing.T) {
	for _, ports := range []int{1, 2, 63, 64} {
		k := made(t, ports, 2)
		k.publish(k.times(1))
		before := k.m.Time()
		for _, l := range [][]int{nil, {}, {-1}, {ports}, {0, ports}, {ports, 0}, {0, -1}, {64}, {65}, {math.MinInt}, {math.MaxInt}, {1 << 32}, make([]int, 65), make([]int, 66), make([]int, 1000), append(make([]int, 63), ports)} {
			if k.s.Read(0, l) != nil {
				t.Errorf("of %d ports: a Read of %v", ports, l)
			}
		}
		for _, n := range []int{0, 1, 2, 3, 62, 63, 64, 65, 66, 1000} {
			if n != ports && k.s.Publish(publisher, make([]uint64, n)) != nil {
				t.Errorf("of %d ports: a Publish of %d times", ports, n)
			}
		}
		for _, who := range []int{-1, -2, math.MinInt} {
			if k.s.Read(who, []int{0}) != nil || k.s.Publish(who, k.times(2)) != nil || k.s.Read(who, nil) != nil || k.s.Publish(who, nil) != nil {
				t.Error("of nobody")
			}
		}
		if k.s.Publish(publisher, nil) != nil || k.m.Time() != before {
			t.Error("that made an access")
		}
		k.read(upTo(ports), k.times(1))
		if k.s.Read(0, make([]int, 64)) == nil || k.s.Read(0, append(make([]int, 63), ports-1)) == nil {
			t.Error("64 in a list may be")
		}
		if a := k.end(k.s.Publish(math.MaxInt, k.times(3))); a.Mark() == 0 {
			t.Error("of somebody")
		}
		if a := k.end(k.s.Read(math.MaxInt, []int{ports - 1})); !slices.Equal(a.Times(), k.times(3)[ports-1:]) {
			t.Error("of somebody")
		}
	}
}

// P13.1, P1: a nil Shot, a nil Act; ones that no call made neither.
func TestNil(t *testing.T) {
	for _, s := range []*shot.Shot{nil, new(shot.Shot)} {
		for _, who := range []int{math.MinInt, -1, 0, 1} {
			for n := range 3 {
				if s.Publish(who, make([]uint64, n)) != nil || s.Read(who, make([]int, n)) != nil {
					t.Error("of a nil Shot")
				}
			}
		}
	}
	for _, a := range []*shot.Act{nil, new(shot.Act)} {
		for range 3 {
			if !a.Step() || !a.Over() || a.Mark() != 0 || len(a.Times()) != 0 || a.Vain() != 0 {
				t.Error("of a nil Act")
			}
		}
	}
}

// P13.1: it lies in its own words, and has its own latch: two of them have nothing to do with each other.
func TestWhereItLies(t *testing.T) {
	const word, latch = 3, 2
	for _, ports := range []int{1, 2, 64} {
		m, _ := mem.New(word+2*(ports+1), 0, latch+2)
		for w := range word {
			m.Store(peeker, w, 1)
		}
		s, _ := shot.New(m, word, latch, ports, 2)
		other, _ := shot.New(m, word+ports+1, latch+1, ports, 2)
		k, o := &kit{t, m, s, ports, 2}, &kit{t, m, other, ports, 2}
		m.Take(peeker, 0)
		m.Take(peeker, 1)
		begin := m.Time()
		k.publish(k.times(1))
		for _, l := range k.lists() {
			k.read(l, k.times(1))
			o.read(l, make([]uint64, ports))
		}
		for _, e := range m.Log()[begin:] {
			if e.Kind <= mem.Store && e.At < word || e.Kind >= mem.Take && e.At < latch || e.Kind == mem.Get || e.Kind == mem.Set {
				t.Fatalf("%v isn't its own", e)
			}
		}
		o.publish(o.times(2))
		k.read(upTo(ports), k.times(1))
		o.read(upTo(ports), o.times(2))
	}
}

// words is what the version and the words of all ports are just now.
func (k *kit) words() (version uint64, times []uint64) {
	version = k.m.Load(peeker, 0)
	for port := range k.ports {
		times = append(times, k.m.Load(peeker, port+1))
	}
	return version, times
}

// P13.1: Step by Step: with the latch; the version is odd while the words aren't whole; the Mark is where it is even again.
func TestStepsOfPublish(t *testing.T) {
	for _, ports := range []int{1, 2, 64} {
		k := made(t, ports, 1)
		had := make([]uint64, ports)
		for n := range 3 {
			next := k.times(n)
			a := k.s.Publish(publisher, next)
			if a.Over() || a.Mark() != 0 || len(a.Times()) != 0 || a.Vain() != 0 {
				t.Fatal("a begun act tells something")
			}
			k.watch(a, had, next)
			k.free()
			k.stays(a, nil, 0)
			had = next
		}
	}
}

// watch steps a Publish, and looks behind each Step at what everybody sees.
func (k *kit) watch(a *shot.Act, had, next []uint64) {
	k.t.Helper()
	first, _ := k.words()
	mark, began := 0, false
	for over := false; !over; {
		time := k.m.Time()
		over = a.Step()
		l := k.m.Log()
		if len(l) != time+1 || l[time].Who != publisher || a.Over() != over || len(a.Times()) != 0 || a.Vain() != 0 {
			k.t.Fatalf("a Step isn't one access of who, or tells what a Read's does: %v", l[time:])
		}
		version, times := k.words()
		odd := version%2 == 1
		began = began || odd
		if odd && k.m.Holder(0) != publisher {
			k.t.Fatal("the version is odd, and the latch isn't who's")
		}
		if !began && (version != first || !slices.Equal(times, had)) {
			k.t.Fatalf("the version isn't odd yet: %d, %v", version, times)
		}
		if began && !odd {
			if version == first || !slices.Equal(times, next) {
				k.t.Fatalf("the version is even again: %d, %v", version, times)
			}
			if mark == 0 {
				mark = time + 1
			}
		}
		if a.Mark() != mark {
			k.t.Fatalf("Mark %d, want %d", a.Mark(), mark)
		}
	}
	if e := k.m.Log()[mark-1]; e.Kind != mem.Store || e.At != 0 {
		k.t.Fatalf("Mark at %v", e)
	}
}

// stays: of what is over nothing changes any more.
func (k *kit) stays(a *shot.Act, times []uint64, vain int) {
	k.t.Helper()
	mark := a.Mark()
	for range 3 {
		time := k.m.Time()
		if !a.Over() || mark == 0 || a.Mark() != mark || !slices.Equal(a.Times(), times) || a.Vain() != vain || !a.Step() || k.m.Time() != time {
			k.t.Fatalf("over: Mark %d, %v, %d", a.Mark(), a.Times(), a.Vain())
		}
	}
}

// trial is the accesses of a try that holds: the version, these words, the version again.
func trial(who int, ports []int) []mem.Event {
	l := []mem.Event{{Who: who, Kind: mem.Load, Ok: true}}
	for _, port := range ports {
		l = append(l, mem.Event{Who: who, Kind: mem.Load, At: port + 1, Ok: true})
	}
	return append(l, l[0])
}

// latched is the accesses of a Read with the latch.
func latched(who int, ports []int) []mem.Event {
	l := trial(who, ports)
	l[0] = mem.Event{Who: who, Kind: mem.Take, Ok: true}
	l[len(l)-1] = mem.Event{Who: who, Kind: mem.Free, Ok: true}
	return l
}

// follow steps an act till it is over, and holds what it tells at each Step against the accesses that it is to make
// and the one, from 0 on, with which its Mark may come first.
func (k *kit) follow(a *shot.Act, want []mem.Event, mark int, times []uint64, vain int) {
	k.t.Helper()
	begin := k.m.Time()
	for i := range want {
		if a.Over() || len(a.Times()) != 0 || a.Vain() != vain || i < mark && a.Mark() != 0 {
			k.t.Fatalf("ahead of Step %d: %v, %v, %d, Mark %d", i, a.Over(), a.Times(), a.Vain(), a.Mark())
		}
		before := a.Mark()
		if a.Step() != (i == len(want)-1) {
			k.t.Fatalf("over at Step %d: %v", i, k.m.Log()[begin:])
		}
		if l := k.m.Log()[begin:]; !slices.Equal(l, want[:i+1]) {
			k.t.Fatalf("%v, want %v", l, want)
		}
		if got := a.Mark(); before != 0 && got != before || before == 0 && got != 0 && got != k.m.Time() {
			k.t.Fatalf("Mark %d at %d, ahead of it %d", got, k.m.Time(), before)
		}
	}
	k.stays(a, times, vain)
}

// P13.1: a Read that nobody meets is one try, without the latch, whoever has that.
func TestStepsOfRead(t *testing.T) {
	for _, ports := range []int{1, 2, 3, 64} {
		for _, tries := range []int{1, 8} {
			k := made(t, ports, tries)
			for n := range 3 {
				if n == 2 {
					k.m.Take(peeker, 0)
				}
				all := make([]uint64, ports)
				if n > 0 {
					all = k.times(1)
				}
				for _, l := range k.lists() {
					k.follow(k.s.Read(3, l), trial(3, l), len(l), of(all, l), 0)
				}
				if n == 0 {
					k.publish(k.times(1))
				}
			}
		}
	}
}

// odd begins a Publish, and goes on with it till the version is odd, and so many of its words are stored.
func (k *kit) odd(times []uint64, stored int) *shot.Act {
	k.t.Helper()
	a := k.s.Publish(publisher, times)
	for range 256 {
		if k.m.Load(peeker, 0)%2 == 1 {
			break
		}
		a.Step()
	}
	for range stored {
		a.Step()
	}
	if a.Over() || a.Mark() != 0 || k.m.Load(peeker, 0)%2 != 1 {
		k.t.Fatal("the version isn't odd")
	}
	return a
}

// P13.1: while the version is odd no try holds; each makes two accesses at most more than there are ports in the list;
// then it tries for the latch, each Step, and reads with that, as soon as it comes.
func TestTriesInVain(t *testing.T) {
	for _, ports := range []int{1, 2, 3, 64} {
		for tries := 1; tries <= 8; tries++ {
			k := made(t, ports, tries)
			had := k.times(1)
			k.publish(had)
			for n, l := range k.lists() {
				next := k.times(n + 2)
				p := k.odd(next, n%(ports+1))
				a := k.s.Read(3, l)
				begin := k.m.Time()
				k.inVain(a, tries, len(l))
				for _, e := range k.m.Log()[begin:] {
					if e.Who != 3 || e.Kind != mem.Load {
						t.Fatalf("a try makes %v", e)
					}
				}
				k.waits(a, 3, tries)
				k.end(p)
				begin = k.m.Time()
				k.follow(a, latched(3, l), len(l), of(next, l), tries)
				if a.Mark() <= begin || a.Mark() <= p.Mark() {
					t.Fatalf("Mark %d behind %d and %d", a.Mark(), begin, p.Mark())
				}
				k.free()
			}
		}
	}
}

// inVain steps a Read through all its tries, of so many ports each.
func (k *kit) inVain(a *shot.Act, tries, many int) {
	k.t.Helper()
	for vain := range tries {
		steps := 0
		for ; a.Vain() == vain; steps++ {
			if steps == many+2 || a.Step() || a.Over() || a.Mark() != 0 || len(a.Times()) != 0 {
				k.t.Fatalf("try %d isn't over behind %d accesses, or it is more than that: %v", vain, steps, k.m.Log())
			}
		}
		if a.Vain() != vain+1 {
			k.t.Fatalf("%d tries were in vain behind %d of them", a.Vain(), vain+1)
		}
	}
}

// waits: does an act try for the latch alone, and tell nothing, as long as that is somebody's?
func (k *kit) waits(a *shot.Act, who, vain int) {
	k.t.Helper()
	begin := k.m.Time()
	for range 100 {
		if a.Step() || a.Over() || a.Mark() != 0 || len(a.Times()) != 0 || a.Vain() != vain {
			k.t.Fatalf("it is over, or tells something: %v", k.m.Log()[begin:])
		}
	}
	want := slices.Repeat([]mem.Event{{Who: who, Kind: mem.Take}}, 100)
	if l := k.m.Log()[begin:]; !slices.Equal(l, want) {
		k.t.Fatalf("it doesn't try for the latch: %v", l)
	}
}

// P13.1, P13.2: a try is in vain, too, if a Publish went by between its two looks at the version, whichever words it
// had already; and what it had of them isn't told. Behind some of those one holds, or it reads with the latch.
func TestPublishInTheMidstOfTries(t *testing.T) {
	for _, ports := range []int{1, 2, 5} {
		for _, tries := range []int{1, 2, 3, 8} {
			for behind := 1; behind <= ports+1; behind++ {
				for vain := range tries + 1 {
					k := made(t, ports, tries)
					k.publish(k.times(0))
					l := upTo(ports)
					slices.Reverse(l)
					a := k.s.Read(3, l)
					for n := range vain {
						for range behind {
							a.Step()
						}
						k.publish(k.times(n + 1))
						for range ports + 2 - behind {
							if a.Vain() != n || a.Over() {
								t.Fatalf("%d in vain ahead of the end of try %d", a.Vain(), n)
							}
							a.Step()
						}
						if a.Vain() != n+1 || a.Over() || a.Mark() != 0 || len(a.Times()) != 0 {
							t.Fatalf("%d in vain behind try %d", a.Vain(), n)
						}
					}
					last := of(k.times(vain), l)
					if vain == tries {
						k.follow(a, latched(3, l), len(l), last, vain)
					} else {
						k.follow(a, trial(3, l), len(l), last, vain)
					}
					k.free()
				}
			}
		}
	}
}

// P13.1: a Publish tries for the latch as long as it is somebody's, and changes nothing till then.
func TestLatchOfSomebody(t *testing.T) {
	for _, who := range []int{publisher, peeker} {
		k := made(t, 2, 2)
		k.publish(k.times(1))
		k.m.Take(peeker, 0)
		a := k.s.Publish(who, k.times(2))
		k.waits(a, who, 0)
		k.read([]int{0, 1}, k.times(1))
		k.m.Free(peeker, 0)
		k.end(a)
		k.read([]int{0, 1}, k.times(2))
		k.free()
	}
}

// P13.2: while a Read has the latch a Publish waits for it, and what is read is what was there ahead of that.
func TestPublishWaitsForRead(t *testing.T) {
	k := made(t, 3, 1)
	p := k.odd(k.times(1), 2)
	a := k.s.Read(3, []int{2, 0})
	k.inVain(a, 1, 2)
	k.end(p)
	for step := range 3 {
		if a.Step() {
			t.Fatal("it is over")
		}
		next := k.s.Publish(publisher, k.times(9))
		k.waits(next, publisher, 0)
		if step == 2 {
			k.end(a)
			if !slices.Equal(a.Times(), of(k.times(1), []int{2, 0})) {
				t.Error(a.Times())
			}
			k.end(next)
			k.read([]int{0, 1, 2}, k.times(9))
			if a.Mark() >= next.Mark() {
				t.Error("the Read is ahead of the Publish")
			}
		}
	}
}

// P13.1: who sleeps makes no access, at whatever Step, and goes on when he is woken.
func TestSleeper(t *testing.T) {
	for what := range 3 {
		for at := 0; ; at++ {
			k := made(t, 2, 2)
			p := k.odd(k.times(1), 1)
			a, want := p, []uint64(nil)
			switch what {
			case 0:
				k.end(p)
				a = k.s.Publish(3, k.times(1))
			case 1:
				k.end(p)
				a, want = k.s.Read(3, []int{1, 0}), of(k.times(1), []int{1, 0})
			case 2:
				a, want = k.s.Read(3, []int{1, 0}), of(k.times(1), []int{1, 0})
				k.inVain(a, 2, 2)
				k.end(p)
			}
			for range at {
				a.Step()
			}
			over, mark, vain := a.Over(), a.Mark(), a.Vain()
			k.m.Take(3, 1)
			k.m.Sleep(3, 1)
			time := k.m.Time()
			for range 20 {
				if a.Step() != over || a.Over() != over || a.Mark() != mark || a.Vain() != vain || k.m.Time() != time {
					t.Fatalf("who sleeps behind %d Steps: %v", at, k.m.Log())
				}
			}
			if over {
				break
			}
			k.m.Take(9, 1)
			k.m.Wake(9, 1)
			k.m.Free(9, 1)
			k.end(a)
			if !slices.Equal(a.Times(), want) || a.Vain() != vain {
				t.Fatal("it isn't as if it hadn't slept")
			}
			k.free()
		}
	}
}

// everyTurn runs something in all its turns: choose tells which of n is next.
func everyTurn(run func(choose func(n int) int)) {
	var path, widths []int
	for {
		at := 0
		run(func(n int) int {
			if at == len(path) {
				path, widths = append(path, 0), append(widths, n)
			}
			at++
			return path[at-1]
		})
		for len(path) > 0 && path[len(path)-1] == widths[len(path)-1]-1 {
			path, widths = path[:len(path)-1], widths[:len(path)-1]
		}
		if len(path) == 0 {
			return
		}
		path[len(path)-1]++
	}
}

// job is an act that is to be done: a Read of ports, or, where there are none, a Publish of times. done is one of a
// run: when it began, and ended.
type job struct {
	ports []int
	times []uint64
}

type done struct {
	job
	who        int
	a          *shot.Act
	begin, end int
}

// worker does jobs, one behind the other; vain: its last Step was a Take that wasn't Ok.
type worker struct {
	who  int
	left []job
	now  *done
	vain bool
}

// step begins the next job, if none is under way, and goes on by one Step, which is one access.
func (k *kit) step(w *worker, all *[]*done) {
	if w.now == nil {
		w.now = &done{job: w.left[0], who: w.who, begin: k.m.Time()}
		if w.now.ports != nil {
			w.now.a = k.s.Read(w.who, w.now.ports)
		} else {
			w.now.a = k.s.Publish(w.who, w.now.times)
		}
		*all = append(*all, w.now)
	}
	d, time := w.now, k.m.Time()
	mark := d.a.Mark()
	over := d.a.Step()
	if k.m.Time() != time+1 {
		k.t.Fatalf("a Step isn't one access: %v", k.m.Log())
	}
	if got := d.a.Mark(); got != mark && mark != 0 || over && got == 0 {
		k.t.Fatalf("Mark %d, and then %d", mark, got)
	}
	if over {
		d.end = k.m.Time()
		w.now = nil
		w.left = w.left[1:]
	}
}

// oneBehindTheOther goes through acts in the order of their Marks: P13.2.
func (k *kit) oneBehindTheOther(all []*done) (vain int) {
	slices.SortFunc(all, func(a, b *done) int { return a.a.Mark() - b.a.Mark() })
	now, last, l := make([]uint64, k.ports), 0, k.m.Log()
	for _, d := range all {
		mark := d.a.Mark()
		if mark <= last || mark <= d.begin || mark > d.end || l[mark-1].Who != d.who {
			k.t.Fatalf("Mark %d of what went from %d to %d, behind %d", mark, d.begin, d.end, last)
		}
		last = mark
		if d.ports == nil {
			now = d.times
			continue
		}
		if !slices.Equal(d.a.Times(), of(now, d.ports)) {
			k.t.Fatalf("Read of %v: %v, want %v of %v: %v", d.ports, d.a.Times(), of(now, d.ports), now, l)
		}
		if d.a.Vain() < 0 || d.a.Vain() > k.tries {
			k.t.Fatalf("%d of %d tries were in vain", d.a.Vain(), k.tries)
		}
		vain = max(vain, d.a.Vain())
	}
	k.free()
	k.read(upTo(k.ports), now)
	return vain
}

// turns lets workers do their jobs by choices, and holds it against one thing behind the other. Who tried for the
// latch in vain tries again when it is free.
func turns(t *testing.T, ports, tries int, jobs [][]job, choose func(n int) int) (vain int) {
	t.Helper()
	k := made(t, ports, tries)
	var workers []*worker
	for who, l := range jobs {
		workers = append(workers, &worker{who: who, left: l})
	}
	var all []*done
	for {
		going := slices.DeleteFunc(slices.Clone(workers), func(w *worker) bool {
			return len(w.left) == 0 || w.vain && k.m.Holder(0) >= 0
		})
		if len(going) == 0 {
			break
		}
		w := going[choose(len(going))]
		k.step(w, &all)
		l := k.m.Log()
		w.vain = l[len(l)-1].Kind == mem.Take && !l[len(l)-1].Ok
	}
	for _, w := range workers {
		if len(w.left) > 0 {
			t.Fatalf("%d is stuck: %v", w.who, k.m.Log())
		}
	}
	return k.oneBehindTheOther(all)
}

// publishes is so many Publishes, each of other times.
func publishes(ports, n int) []job {
	k := &kit{ports: ports}
	var l []job
	for i := range n {
		l = append(l, job{times: k.times(i + 1)})
	}
	return l
}

func reads(l ...[]int) []job {
	var jobs []job
	for _, ports := range l {
		jobs = append(jobs, job{ports: ports})
	}
	return jobs
}

// P13.2: a Publish or two and Reads of several whos in every turn (but that nobody tries again for the latch while it
// is still somebody's); in some of these all tries are in vain.
func TestEveryTurn(t *testing.T) {
	for _, c := range []struct {
		ports, tries int
		jobs         [][]job
	}{
		{1, 1, [][]job{publishes(1, 1), reads([]int{0})}},
		{1, 1, [][]job{publishes(1, 2), reads([]int{0})}},
		{1, 1, [][]job{publishes(1, 1), reads([]int{0}), reads([]int{0})}},
		{1, 1, [][]job{publishes(1, 1), reads([]int{0}, []int{0})}},
		{1, 2, [][]job{publishes(1, 2), reads([]int{0})}},
		{2, 1, [][]job{publishes(2, 1), reads([]int{0, 1})}},
		{2, 1, [][]job{publishes(2, 2), reads([]int{1, 0})}},
		{2, 2, [][]job{publishes(2, 1), reads([]int{0, 1})}},
		{2, 1, [][]job{publishes(2, 1), reads([]int{0, 1}, []int{1})}},
		{3, 1, [][]job{publishes(3, 1), reads([]int{2, 0, 2})}},
		{3, 3, [][]job{publishes(3, 1), reads([]int{0, 1, 2})}},
	} {
		runs, vain := 0, 0
		everyTurn(func(choose func(int) int) {
			runs++
			vain = max(vain, turns(t, c.ports, c.tries, c.jobs, choose))
		})
		if runs < 50 || vain != c.tries {
			t.Errorf("of %d runs, with %d of %d tries in vain: the test tells little", runs, vain, c.tries)
		}
	}
}

// P13.2: many of them, of many whos, by turns that hurry now the one, now the other one; each tries for the latch as
// often as it is its turn.
func TestManyInManyTurns(t *testing.T) {
	d := dice(1)
	vains := map[int]int{}
	for range 1200 {
		ports, tries := 1+d.roll(5), 1+d.roll(8)
		if d.roll(30) == 0 {
			ports = 64
		}
		k := made(t, ports, tries)
		workers := []*worker{{who: publisher, left: publishes(ports, d.roll(20))}}
		for who := range 1 + d.roll(5) {
			var l [][]int
			for range d.roll(8) {
				list := make([]int, 1+d.roll(6))
				for i := range list {
					list[i] = d.roll(ports)
				}
				l = append(l, list)
			}
			workers = append(workers, &worker{who: who, left: reads(l...)})
		}
		var all []*done
		for hurry := 1 + d.roll(20); ; {
			going := slices.DeleteFunc(slices.Clone(workers), func(w *worker) bool { return len(w.left) == 0 })
			if len(going) == 0 {
				break
			}
			w := going[d.roll(len(going))]
			for range 1 + d.roll(hurry) {
				if len(w.left) > 0 {
					k.step(w, &all)
				}
			}
		}
		k.oneBehindTheOther(all)
		for _, d := range all {
			vains[d.a.Vain()]++
		}
	}
	for vain := range 9 {
		if vains[vain] < 20 {
			t.Errorf("%d tries were in vain %d times alone: the test tells little", vain, vains[vain])
		}
	}
}

// P13.3: n acts that are stepped in turn are over within n times 1024 rounds; so nobody is stuck.
func TestInTurn(t *testing.T) {
	for _, ports := range []int{1, 7, 64} {
		for _, tries := range []int{1, 8} {
			for n := 1; n <= 12; n++ {
				for _, publish := range []int{-1, 0, n / 2, n - 1} {
					for _, ahead := range []int{0, 1, 2, 3, 40, 66} {
						k := made(t, ports, tries)
						var acts []*shot.Act
						for who := range n {
							if who == publish {
								acts = append(acts, k.s.Publish(who, k.times(1)))
								for range ahead {
									acts[who].Step()
								}
							} else {
								acts = append(acts, k.s.Read(who, slices.Repeat([]int{ports - 1}, 64)))
							}
						}
						k.inTurn(acts, n*1024)
					}
				}
			}
		}
	}
}

// inTurn steps acts in turn, and holds it against so many rounds.
func (k *kit) inTurn(acts []*shot.Act, rounds int) {
	k.t.Helper()
	over := func(a *shot.Act) bool { return a.Over() }
	for range rounds {
		for _, a := range acts {
			a.Step()
		}
		acts = slices.DeleteFunc(slices.Clone(acts), over)
	}
	if len(acts) > 0 {
		k.t.Fatalf("%d aren't over within %d rounds", len(acts), rounds)
	}
	k.free()
}

// P13.3: what nobody else meets is over within 256 Steps, of as many ports and tries as there may be, and as often as
// it is begun.
func TestAlone(t *testing.T) {
	k := made(t, 64, 8)
	all := make([]uint64, 64)
	for n := range 300 {
		k.read(upTo(64), all)
		all = k.times(n)
		k.publish(all)
	}
	k.read(slices.Repeat([]int{63}, 64), all)
}

// P5: what is answered in the end hangs on no number of tries.
func TestTriesTellNothing(t *testing.T) {
	for tries := 1; tries <= 8; tries++ {
		k, d := made(t, 4, tries), dice(3)
		for n := range 100 {
			l := []int{d.roll(4), d.roll(4)}
			p, a := k.odd(k.times(n), d.roll(4)), k.s.Read(0, l)
			for range 256 {
				a.Step()
			}
			k.end(p)
			if k.end(a); !slices.Equal(a.Times(), of(k.times(n), l)) || a.Vain() != tries {
				t.Fatalf("%v, %d", a.Times(), a.Vain())
			}
		}
	}
}

// P13.1: one may read while what he publishes is under way: then he waits for his own latch like everybody else.
func TestPublisherReads(t *testing.T) {
	k := made(t, 2, 2)
	p := k.odd(k.times(1), 1)
	a := k.s.Read(publisher, []int{0, 1})
	k.inVain(a, 2, 2)
	k.waits(a, publisher, 2)
	k.end(p)
	if k.end(a); !slices.Equal(a.Times(), k.times(1)) || a.Mark() <= p.Mark() {
		t.Error(a.Times())
	}
	k.free()
}

// P13.1: what an act told when it was over it tells ever after.
func TestOverStays(t *testing.T) {
	k := made(t, 2, 2)
	p := k.publish(k.times(1))
	a := k.read([]int{1}, k.times(1))
	markP, markA := p.Mark(), a.Mark()
	k.publish(k.times(2))
	k.read([]int{1}, k.times(2))
	k.stays(p, nil, 0)
	k.stays(a, of(k.times(1), []int{1}), 0)
	if p.Mark() != markP || a.Mark() != markA {
		t.Error("it is another one later")
	}
}

// spoil overwrites a list, its spare room too.
func spoil[T any](l []T, by T) {
	l = l[:cap(l)]
	for i := range l {
		l[i] = by
	}
}

// P13.4: what is handed in is neither kept nor changed, its spare room neither.
func TestPublishKeepsNothing(t *testing.T) {
	for steps := range 9 {
		k := made(t, 3, 1)
		times := append(make([]uint64, 0, 9), k.times(1)...)
		whole := slices.Clone(times[:9])
		p := k.s.Publish(publisher, times)
		for range steps {
			p.Step()
		}
		if !slices.Equal(times[:9], whole) {
			t.Fatal("what is handed in is changed")
		}
		spoil(times, 44)
		k.end(p)
		k.read([]int{0, 1, 2}, k.times(1))
		if slices.ContainsFunc(times[:9], func(v uint64) bool { return v != 44 }) {
			t.Fatal("what is handed in is changed")
		}
	}
}

// P13.4: of a Read likewise, in whichever of its tries.
func TestReadKeepsNothing(t *testing.T) {
	l := []int{2, 0, 1, 2}
	for vain := range 3 {
		for steps := range 25 {
			k := made(t, 3, 2)
			p := k.odd(k.times(1), 1)
			ports := append(make([]int, 0, 9), l...)
			whole := slices.Clone(ports[:9])
			a := k.s.Read(0, ports)
			for range steps {
				a.Step()
			}
			if !slices.Equal(ports[:9], whole) {
				t.Fatal("what is handed in is changed")
			}
			spoil(ports, 1)
			for a.Vain() < vain {
				a.Step()
			}
			k.end(p)
			if k.end(a); !slices.Equal(a.Times(), of(k.times(1), l)) {
				t.Fatalf("it reads something else: %v", a.Times())
			}
			if slices.ContainsFunc(ports[:9], func(v int) bool { return v != 1 }) {
				t.Fatal("what is handed in is changed")
			}
		}
	}
}

// P13.4: what is told is new each time, and shares with nothing.
func TestTimesAreNew(t *testing.T) {
	for _, vain := range []bool{false, true} {
		k := made(t, 3, 1)
		a := k.s.Read(0, []int{0, 1, 2})
		if vain {
			a.Step()
		}
		k.publish(k.times(1))
		k.end(a)
		first, second := a.Times(), a.Times()
		spoil(first, 44)
		if !slices.Equal(second, k.times(1)) || !slices.Equal(a.Times(), k.times(1)) {
			t.Fatal("two answers share")
		}
		spoil(second, 55)
		spoil(a.Times(), 66)
		k.read([]int{0, 1, 2}, k.times(1))
		if again := k.end(k.s.Read(0, []int{0, 1, 2})); !slices.Equal(again.Times(), k.times(1)) {
			t.Fatal("two acts share")
		}
	}
}

// P1: words and latches that there aren't: all ends.
func TestThingsThatThereArent(t *testing.T) {
	places := []int{0, 1, 3, 64, 65, 65535, 65536, math.MaxInt - 64, math.MaxInt - 3, math.MaxInt}
	for _, sizes := range [][2]int{{0, 0}, {1, 0}, {0, 1}, {1, 1}, {5, 4}, {65, 0}, {65536, 65536}} {
		for _, word := range places {
			for _, latch := range places {
				for _, ports := range []int{1, 4, 64} {
					m, _ := mem.New(sizes[0], 0, sizes[1])
					s, e := shot.New(m, word, latch, ports, 8)
					if e != api.OK {
						t.Fatal(e)
					}
					k := &kit{t, m, s, ports, 8}
					begun := s.Publish(1, k.times(1))
					for range 4 {
						begun.Step()
					}
					a := s.Read(0, upTo(ports))
					for range 4 {
						a.Step()
					}
					k.end(begun)
					k.end(a).Times()
					k.end(s.Publish(1, k.times(2)))
					k.end(s.Read(2, upTo(ports))).Times()
				}
			}
		}
	}
}
