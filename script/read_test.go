package script_test

import (
	"math"
	"slices"
	"strings"
	"testing"

	"marchland/batch"
	"marchland/clock"
	"marchland/graph"
	"marchland/hist"
	"marchland/model"
	"marchland/script"
	"marchland/tower"
)

// P18.1: the document's example; nothing is likewise whichever it is.
func TestNoBytes(t *testing.T) {
	p := model.Plan{Graph: graph.Graph{Ports: 1, Inputs: []int{0}}, Threads: 1, Ring: 1, Shards: 1, Tries: 1}
	want := script.Script{Plan: p, Progs: [][]cmd{nil}}
	reads(t, nil, want)
	reads(t, []byte{}, want)
	for n := range 21 {
		reads(t, make([]byte, n), want)
	}
}

// P18.1: a script told out, byte by byte.
func TestBytes(t *testing.T) {
	// Three ports, with both inputs; two edges, the second of which would take no time.
	head := []byte{0x82, 8, 4, 5, 3, 2, 0x12, 0, 0x02, 4, 99, 99, 99, 99, 99, 99, 77, 77, 77, 77}
	b := append(head,
		0x00, 0x1a, 0xff, // thread 0: open 2
		0x12, 0x07, 0x35, // thread 1: advance 7 5
		0x27, 0x09, 0x00, // thread 0: close 1
		0x38, 0x80, 0x5f, // thread 1: one comes at port 2, time 15, by the handle in place 0
		0x4c, 0x7b, 0x73, // thread 0: one goes at port 1, time 3, by the handle in place 3
		0x0d, 0x05, 0xf8, // thread 0: done 2 8
		0x1e, 0x03, 0xff, // thread 1: wait 0 15
		0xff, 0xff, 0xff, // thread 1: shut
		0xef, 0xff, 0xfe, // thread 0: fronts
		0x00, 0x01) // no Cmd any more
	p := model.Plan{Graph: graph.Graph{Ports: 3, Edges: []edge{way(0, 1, 0), way(2, 0, 1)}, Inputs: []int{0, 1}}, Threads: 2, Ring: 4, Shards: 1, Tries: 3}
	comes, goes := update(ch(2, 15, 1)), update(ch(1, 3, -1))
	goes.Hand = 3
	var picks []int
	for _, x := range b[20:] {
		picks = append(picks, int(x))
	}
	reads(t, b, script.Script{Plan: p, Progs: [][]cmd{{open(2), shutHand(1), goes, done(2, 8), fronts}, {advance(7, 5), comes, wait(0, 15), shut}}, Picks: picks})
}

// P18.1: each byte ahead of 20 with all that it may be, the others being various.
func TestBytesOfThePlan(t *testing.T) {
	d := dice(1)
	for place := range 20 {
		for x := range 256 {
			for range 3 {
				b := d.bytes(20 + d.roll(3))
				b[place] = byte(x)
				reads(t, b, plain(b))
			}
		}
	}
	for _, c := range []struct {
		place, byte int
		is          func(p model.Plan) bool
	}{
		{0, 0, func(p model.Plan) bool { return p.Graph.Ports == 1 }},
		{0, 3, func(p model.Plan) bool { return p.Graph.Ports == 4 && len(p.Graph.Inputs) == 1 }},
		{0, 127, func(p model.Plan) bool { return p.Graph.Ports == 4 && slices.Equal(p.Graph.Inputs, []int{0}) }},
		{0, 128, func(p model.Plan) bool { return p.Graph.Ports == 1 && slices.Equal(p.Graph.Inputs, []int{0}) }},
		{0, 129, func(p model.Plan) bool { return p.Graph.Ports == 2 && slices.Equal(p.Graph.Inputs, []int{0, 1}) }},
		{0, 255, func(p model.Plan) bool { return p.Graph.Ports == 4 && slices.Equal(p.Graph.Inputs, []int{0, 1}) }},
		{1, 5, func(p model.Plan) bool { return len(p.Graph.Edges) == 5 }},
		{1, 6, func(p model.Plan) bool { return len(p.Graph.Edges) == 0 }},
		{1, 255, func(p model.Plan) bool { return len(p.Graph.Edges) == 3 }},
		{2, 2, func(p model.Plan) bool { return p.Threads == 3 }},
		{2, 3, func(p model.Plan) bool { return p.Threads == 1 }},
		{3, 1, func(p model.Plan) bool { return p.Ring == 2 }},
		{3, 2, func(p model.Plan) bool { return p.Ring == 4 }},
		{3, 255, func(p model.Plan) bool { return p.Ring == 1 }},
		{4, 2, func(p model.Plan) bool { return p.Shards == 3 }},
		{4, 4, func(p model.Plan) bool { return p.Shards == 2 }},
		{5, 2, func(p model.Plan) bool { return p.Tries == 3 }},
		{5, 254, func(p model.Plan) bool { return p.Tries == 3 }},
	} {
		b := make([]byte, 20)
		b[c.place] = byte(c.byte)
		if p := script.Read(b).Plan; !c.is(p) {
			t.Errorf("byte %d is %d: %v", c.place, c.byte, p)
		}
	}
}

// P18.1: each edge's bytes: whatever takes no time leads to a greater port.
func TestBytesOfEdges(t *testing.T) {
	for edges := 1; edges < 6; edges++ {
		for ports := range 4 {
			for x := range 256 {
				for y := range 8 {
					b := rest([]byte{byte(ports), byte(edges)})
					b[4+2*edges], b[5+2*edges] = byte(x), byte(y*37)
					reads(t, b, plain(b))
				}
			}
		}
	}
	for _, c := range []struct {
		x, y byte
		want edge
	}{
		{0x10, 0, way(0, 1, 0)}, {0x10, 3, way(0, 1, 3)}, {0x10, 4, way(0, 1, 0)}, {0x10, 255, way(0, 1, 3)},
		{0x01, 0, way(1, 0, 1)}, {0x01, 1, way(1, 0, 1)}, {0x01, 2, way(1, 0, 2)}, {0x01, 8, way(1, 0, 1)},
		{0x11, 0, way(1, 1, 1)}, {0x11, 3, way(1, 1, 3)}, {0xff, 0, way(3, 3, 1)}, {0x76, 0, way(2, 3, 0)},
	} {
		b := rest([]byte{3, 1, 0, 0, 0, 0, c.x, c.y})
		if l := script.Read(b).Plan.Graph.Edges; !slices.Equal(l, []edge{c.want}) {
			t.Errorf("%x %d: %v, want %v", c.x, c.y, l, c.want)
		}
	}
}

// P18.1: all ways that two or three edges may lie.
func TestAnyPlanMayBe(t *testing.T) {
	may := func(b []byte) {
		if p := script.Read(b).Plan; model.Check(p) != nil {
			t.Fatalf("of %v: %v: %v", b, p, model.Check(p))
		}
	}
	for ports := range 4 {
		for n := range 1 << 12 {
			b := []byte{byte(ports), 3, 0, 0, 0, 0, byte(n&3 | n&12<<2), 0, byte(n>>4&3 | n>>4&12<<2), 0, byte(n>>8&3 | n>>8&12<<2), 0}
			may(b)
		}
	}
	d := dice(2)
	for range 30000 {
		may(d.bytes(d.roll(30)))
	}
	for x := range 256 {
		may(slices.Repeat([]byte{byte(x)}, 40))
	}
}

// P18.1: each first byte of a Cmd, with others that matter to it.
func TestBytesOfCmds(t *testing.T) {
	numbers := []byte{0, 1, 2, 3, 4, 5, 6, 7, 8, 15, 16, 17, 63, 64, 126, 127, 128, 129, 135, 239, 240, 253, 254, 255}
	for _, head := range [][]byte{{0}, {1, 0, 1}, {2, 0, 2}, {3, 0, 0}} {
		for x := range 256 {
			for _, y := range numbers {
				for _, z := range numbers {
					b := rest(head, byte(x), y, z)
					reads(t, b, plain(b))
				}
			}
		}
	}
}

// P18.1: which Kind each x mod 16 is.
func TestKinds(t *testing.T) {
	kinds := [16]int{model.Open, model.Open, model.Advance, model.Advance, model.Advance, model.Advance, model.Advance, model.Close,
		model.Update, model.Update, model.Update, model.Update, model.Update, model.Done, model.Wait, model.Fronts}
	for x := range 256 {
		c := script.Read(rest(nil, byte(x), 0, 0)).Progs[0][0]
		if c.Kind != kinds[x%16] {
			t.Errorf("%d: %v", x, c)
		}
		c = script.Read(rest(nil, byte(x), 0, 255)).Progs[0][0]
		if x%16 == 15 {
			if !sameCmd(c, shut) {
				t.Errorf("%d: %v", x, c)
			}
		} else if c.Kind != kinds[x%16] {
			t.Errorf("%d: %v", x, c)
		}
	}
}

// P18.1: Cmds come by three bytes, 24 and not one more; all bytes from 20 on are picks, however many Cmds there are.
func TestHowManyCmds(t *testing.T) {
	for n := range 100 {
		b := rest(nil, make([]byte, n)...)
		reads(t, b, plain(b))
		if s := script.Read(b); len(s.Progs[0]) != min(n/3, 24) || len(s.Picks) != n {
			t.Errorf("of %d bytes %d Cmds, %d picks", n, len(s.Progs[0]), len(s.Picks))
		}
	}
	b := rest(nil, make([]byte, 300000)...)
	if s := script.Read(b); len(s.Progs[0]) != 24 || len(s.Picks) != 300000 {
		t.Errorf("of many bytes %d Cmds, %d picks", len(s.Progs[0]), len(s.Picks))
	}
}

// P18.1: 24 Cmds are in all, the first ones, whichever threads they are of; none comes in place of one that is left.
func TestHowManyCmdsInAll(t *testing.T) {
	// Of each Cmd the thread; how many each thread has.
	for _, c := range []struct {
		threads int
		who     string
		want    []int
	}{
		{2, strings.Repeat("0", 24) + "1", []int{24, 0}},
		{2, strings.Repeat("0", 24) + "1111", []int{24, 0}},
		{2, strings.Repeat("0", 23) + "1", []int{23, 1}},
		{2, strings.Repeat("0", 23) + "110", []int{23, 1}},
		{2, strings.Repeat("1", 24) + "0", []int{0, 24}},
		{2, "0" + strings.Repeat("1", 24) + "0", []int{1, 23}},
		{2, strings.Repeat("01", 11) + "0", []int{12, 11}},
		{2, strings.Repeat("01", 12) + "0", []int{12, 12}},
		{2, strings.Repeat("01", 40), []int{12, 12}},
		{3, strings.Repeat("012", 24), []int{8, 8, 8}},
		{3, strings.Repeat("2", 25) + "10", []int{0, 0, 24}},
		{3, strings.Repeat("0", 22) + "1201", []int{22, 1, 1}},
		{3, strings.Repeat("0", 20) + strings.Repeat("1", 20) + strings.Repeat("2", 20), []int{20, 4, 0}},
		// With fewer threads it is the rest.
		{1, strings.Repeat("0123", 7), []int{24}},
		{2, strings.Repeat("23", 13), []int{12, 12}},
	} {
		b := rest([]byte{0, 0, byte(c.threads - 1)})
		progs := make([][]cmd, c.threads)
		for i, r := range c.who {
			b = append(b, byte(r-'0')<<4|2, byte(i/16), byte(i))
			who := int(r-'0') % c.threads
			if len(progs[who]) < c.want[who] {
				progs[who] = append(progs[who], advance(i/16, uint64(i%16)))
			}
		}
		s := script.Read(b)
		reads(t, b, plain(b))
		if !slices.EqualFunc(s.Progs, progs, sameCmds) || len(s.Picks) != 3*len(c.who) {
			t.Errorf("%d threads, %s: %v, %d picks, want %v", c.threads, c.who, s.Progs, len(s.Picks), progs)
		}
	}
}

// P18.1: any bytes, and each beginning of them.
func TestAnyBytes(t *testing.T) {
	d := dice(3)
	for range 400 {
		b := d.bytes(d.roll(60))
		for n := range len(b) + 1 {
			reads(t, b[:n], plain(b[:n]))
		}
	}
	for range 200 {
		b := d.bytes(300)
		reads(t, b, plain(b))
	}
}

// P18.3: the bytes aren't changed, their spare room neither; a Script has nothing of them, nor of another one.
func TestReadKeepsNothing(t *testing.T) {
	d := dice(4)
	for range 200 {
		b := d.bytes(80)
		n := d.roll(81)
		before := slices.Clone(b)
		s, want := script.Read(b[:n]), plain(b[:n])
		if !slices.Equal(b, before) {
			t.Fatal("the bytes are others")
		}
		for i := range b {
			b[i] ^= 255
		}
		if !same(s, want) {
			t.Fatal("it hangs on the bytes")
		}
		again := script.Read(before[:n])
		spoil(s)
		if !same(again, want) || !same(script.Read(before[:n]), want) {
			t.Fatal("two share something")
		}
	}
}

// spoil overwrites whatever there is in a Script, its spare room too.
func spoil(s script.Script) {
	over(s.Plan.Graph.Edges, edge{From: 9, To: 9, Add: 9})
	over(s.Plan.Graph.Inputs, 9)
	over(s.Picks, -9)
	for _, l := range s.Progs {
		for _, c := range l {
			over(c.L, ch(9, 9, 9))
		}
		over(l, open(99))
	}
	over(s.Progs, []cmd{open(98)})
}

func over[T any](l []T, by T) {
	l = l[:cap(l)]
	for i := range l {
		l[i] = by
	}
}

// sameEntry: are they alike, with all that is in them?
func sameEntry(a, b hist.Entry) bool {
	x, y := a.Op, b.Op
	return a.Who == b.Who && a.Begin == b.Begin && a.Mark == b.Mark && a.End == b.End && x.Kind == y.Kind && x.Who == y.Who && x.Hand == y.Hand &&
		x.Port == y.Port && x.Time == y.Time && x.Way == y.Way && slices.Equal(x.L, y.L) && model.Same(a.Answer, b.Answer)
}

// alike holds that two Towers were picked alike.
func alike(t *testing.T, a, b *tower.Tower) {
	t.Helper()
	if !slices.Equal(a.Track().Mem().Log(), b.Track().Mem().Log()) || !slices.EqualFunc(a.Track().Log(), b.Track().Log(), sameEntry) || a.Idle() != b.Idle() {
		t.Fatalf("%v, and %v", a.Track().Log(), b.Track().Log())
	}
}

// P18.1: what is played is what the Tower of the plan and the programs does by the picks.
func TestPlay(t *testing.T) {
	d := dice(5)
	various := 0
	for range 300 {
		s := script.Read(d.bytes(20 + d.roll(300)))
		w := script.Play(s)
		own, e := tower.New(s.Plan, s.Progs)
		if e != nil || w == nil {
			t.Fatal(e)
		}
		for _, k := range s.Picks {
			own.Pick(k)
		}
		alike(t, w, own)
		for who := range 4 {
			if w.Left(who) != own.Left(who) || w.Waits(who) != own.Waits(who) {
				t.Fatal("they differ")
			}
		}
		if w.Track().Mem().Time() > 50 {
			various++
		}
	}
	if various < 100 {
		t.Errorf("little is played: %d", various)
	}
}

// P18.1: no picks are made but its own, and any numbers are picks.
func TestPlayOfOthers(t *testing.T) {
	s := script.Read(nil)
	fresh, _ := tower.New(s.Plan, nil)
	alike(t, script.Play(s), fresh)
	s.Progs = [][]cmd{{advance(0, 5), done(0, 4)}}
	for range 10 {
		s.Picks = append(s.Picks, 0)
	}
	w := script.Play(s)
	if l := w.Track().Log(); len(l) < 3 || l[0].Op.Kind != model.Advance {
		t.Error(l)
	}
	s.Picks = []int{math.MinInt, -1, -2, 2, 3, 1 << 40, math.MaxInt}
	own, _ := tower.New(s.Plan, s.Progs)
	own.Run(s.Picks)
	alike(t, script.Play(s), own)
	// Lists that lack are empty, ones beyond are left.
	s.Progs = nil
	if w := script.Play(s); w == nil || w.Left(0) != 0 {
		t.Error("there is a program")
	}
	s.Progs, s.Picks = [][]cmd{{fronts}, {shut}, {shut}}, nil
	if w := script.Play(s); w == nil || w.Left(0) != 1 || w.Left(1) != 0 {
		t.Error("another program")
	}
}

// P18.1: of a plan that may not be there is none.
func TestPlayOfWrongPlans(t *testing.T) {
	good := script.Read([]byte{129, 1, 1, 0, 0, 0, 16, 1})
	for i, wrong := range []func(p *model.Plan){
		func(p *model.Plan) { *p = model.Plan{} },
		func(p *model.Plan) { p.Graph.Ports = 0 },
		func(p *model.Plan) { p.Graph.Ports = 65 },
		func(p *model.Plan) { p.Graph.Inputs = nil },
		func(p *model.Plan) { p.Graph.Inputs = []int{0, 0} },
		func(p *model.Plan) { p.Graph.Edges = []edge{way(0, 0, 0)} },
		func(p *model.Plan) { p.Graph.Edges = []edge{way(0, 2, 1)} },
		func(p *model.Plan) { p.Threads = 0 },
		func(p *model.Plan) { p.Threads = 9 },
		func(p *model.Plan) { p.Ring = 3 },
		func(p *model.Plan) { p.Shards = 0 },
		func(p *model.Plan) { p.Tries = 9 },
	} {
		s := good
		wrong(&s.Plan)
		s.Progs, s.Picks = [][]cmd{{fronts}}, []int{0, 1, 2}
		if script.Play(s) != nil {
			t.Error(i)
		}
	}
	if script.Play(script.Script{}) != nil {
		t.Error("of nothing")
	}
	if script.Play(good) == nil {
		t.Error("of what may be")
	}
}

// P18.3: a Script isn't changed by playing it, and the Tower keeps nothing of it.
func TestPlayKeepsNothing(t *testing.T) {
	d := dice(6)
	for range 60 {
		b := d.bytes(20 + d.roll(200))
		s, want := script.Read(b), script.Read(b)
		w, other := script.Play(s), script.Play(want)
		if !same(s, want) {
			t.Fatal("it is another one")
		}
		spoil(s)
		w.Rest(100000)
		other.Rest(100000)
		alike(t, w, other)
	}
}

// P1: whatever a Script says, playing it ends, and all that came about may be (P2, P6).
func TestAnyScript(t *testing.T) {
	numbers := []int{math.MinInt, -1, 0, 1, 2, 3, 4, 8, 9, 63, 64, 65, math.MaxInt}
	d := dice(7)
	n := func() int { return pick(&d, numbers) }
	for range 2000 {
		var s script.Script
		s.Plan = model.Plan{Graph: graph.Graph{Ports: 1 + d.roll(3), Inputs: []int{d.roll(2)}}, Threads: 1 + d.roll(3), Ring: 1 << d.roll(3), Shards: 1, Tries: 1}
		if d.roll(3) == 0 {
			s.Plan = model.Plan{Graph: graph.Graph{Ports: n(), Edges: []edge{way(n(), n(), uint64(n()))}, Inputs: []int{n()}}, Threads: n(), Ring: n(), Shards: n(), Tries: n()}
		}
		for range d.roll(4) {
			var l []cmd
			for range d.roll(6) {
				l = append(l, cmd{Kind: n(), Hand: n(), Port: n(), Time: uint64(n()), L: []batch.Change{ch(n(), uint64(n()), int64(n()))}})
			}
			s.Progs = append(s.Progs, l)
		}
		for range d.roll(60) {
			s.Picks = append(s.Picks, n()+d.roll(5))
		}
		w := script.Play(s)
		if (w == nil) != (model.Check(s.Plan) != nil) {
			t.Fatalf("%v: %v", s.Plan, w)
		}
		if w == nil {
			continue
		}
		if i, _ := clock.Race(w.Track().Mem().Log()); i >= 0 || hist.Check(s.Plan, w.Track().Log()) != -1 {
			t.Fatalf("of %v: %v", s, w.Track().Log())
		}
	}
}

// P4, P5: what any bytes say comes to rest, and how much room there is changes no answer to what a thread changes.
func TestRoomChangesNoAnswer(t *testing.T) {
	d := dice(8)
	for range 60 {
		b := d.bytes(20 + 3*d.roll(25))
		b[2] = 0
		var first [][]hist.Entry
		for _, room := range [][3]byte{{0, 0, 0}, {1, 1, 1}, {2, 2, 2}} {
			copy(b[3:], room[:])
			s := script.Read(b)
			s.Picks = nil
			w := script.Play(s)
			if w.Rest(1000000) < 0 {
				t.Fatal("it goes on and on")
			}
			var l []hist.Entry
			for _, x := range w.Track().Log() {
				if x.Who == 0 && x.Op.Kind <= model.Update {
					l = append(l, x)
				}
			}
			first = append(first, l)
		}
		for _, l := range first[1:] {
			if !slices.EqualFunc(first[0], l, func(a, b hist.Entry) bool { return model.Same(a.Answer, b.Answer) }) {
				t.Fatalf("%v, and %v", first[0], l)
			}
		}
	}
}
