package script_test

import (
	"slices"
	"testing"

	"marchland/api"
	"marchland/batch"
	"marchland/graph"
	"marchland/model"
	"marchland/script"
	"marchland/tower"
)

type (
	cmd    = tower.Cmd
	change = batch.Change
	edge   = graph.Edge
)

const never = api.Never

// Cmds, in short.
var (
	fronts = cmd{Kind: model.Fronts}
	shut   = cmd{Kind: model.Shut}
)

func open(hand int) cmd { return cmd{Kind: model.Open, Hand: hand} }

func advance(hand int, time uint64) cmd { return cmd{Kind: model.Advance, Hand: hand, Time: time} }

func shutHand(hand int) cmd { return cmd{Kind: model.Close, Hand: hand} }

func update(l ...change) cmd { return cmd{Kind: model.Update, L: l} }

func done(port int, time uint64) cmd { return cmd{Kind: model.Done, Port: port, Time: time} }

func wait(port int, time uint64) cmd { return cmd{Kind: model.Wait, Port: port, Time: time} }

func ch(port int, time uint64, diff int64) change { return change{Port: port, Time: time, Diff: diff} }

func way(from, to int, add uint64) edge { return edge{From: from, To: to, Add: add} }

// dice is a row of numbers that is the same each time.
type dice uint64

func (d *dice) roll(n int) int {
	*d = *d*6364136223846793005 + 1442695040888963407
	return int(uint64(*d)>>33) % n
}

func pick[T any](d *dice, l []T) T { return l[d.roll(len(l))] }

func (d *dice) bytes(n int) []byte {
	b := make([]byte, n)
	for i := range b {
		b[i] = byte(d.roll(256))
	}
	return b
}

// rest is 20 bytes ahead of some others.
func rest(head []byte, more ...byte) []byte {
	return append(append(slices.Clone(head), make([]byte, 20-len(head))...), more...)
}

func sameCmd(a, b cmd) bool {
	return a.Kind == b.Kind && a.Hand == b.Hand && a.Port == b.Port && a.Time == b.Time && slices.Equal(a.L, b.L)
}

func sameCmds(a, b []cmd) bool { return slices.EqualFunc(a, b, sameCmd) }

func sameGraph(a, b graph.Graph) bool {
	return a.Ports == b.Ports && slices.Equal(a.Edges, b.Edges) && slices.Equal(a.Inputs, b.Inputs)
}

func samePlan(a, b model.Plan) bool {
	return sameGraph(a.Graph, b.Graph) && a.Threads == b.Threads && a.Ring == b.Ring && a.Shards == b.Shards && a.Tries == b.Tries
}

func same(a, b script.Script) bool {
	return samePlan(a.Plan, b.Plan) && slices.EqualFunc(a.Progs, b.Progs, sameCmds) && slices.Equal(a.Picks, b.Picks)
}

// plain is Read told most plainly: by the bytes with as many noughts behind them as it takes, and a letter for each x mod 16.
func plain(b []byte) script.Script {
	full := append(slices.Clone(b), make([]byte, 20)...)
	n := func(i int) int { return int(full[i]) }
	var s script.Script
	ports := n(0)&3 + 1
	s.Plan = model.Plan{Graph: graph.Graph{Ports: ports, Inputs: []int{0}}, Threads: []int{1, 2, 3}[n(2)%3], Ring: []int{1, 2, 4}[n(3)%3], Shards: []int{1, 2, 3}[n(4)%3], Tries: []int{1, 2, 3}[n(5)%3]}
	if full[0]&128 != 0 && ports >= 2 {
		s.Plan.Graph.Inputs = []int{0, 1}
	}
	for i := 0; i < n(1)%6; i++ {
		x, y := n(2*i+6), n(2*i+7)
		from, to, add := x%ports, x>>4%ports, uint64(y&3)
		if !(to > from) {
			add = max(add, 1)
		}
		s.Plan.Graph.Edges = append(s.Plan.Graph.Edges, edge{From: from, To: to, Add: add})
	}
	s.Progs = make([][]cmd, s.Plan.Threads)
	for i := 20; i < len(b); i++ {
		s.Picks = append(s.Picks, int(b[i]))
		// The 24th Cmd ends with byte 91.
		if i%3 != 1 || i > 91 {
			continue
		}
		x, y, z := b[i-2], b[i-1], b[i]
		who := int(x>>4) % s.Plan.Threads
		s.Progs[who] = append(s.Progs[who], plainCmd("OOAAAAACUUUUUDWF"[x&15], y, z, ports))
	}
	return s
}

func plainCmd(letter, y, z byte, ports int) cmd {
	hand, port, time := int(y&7), int(y)%ports, uint64(z&15)
	switch letter {
	case 'O':
		return open(hand)
	case 'A':
		return advance(hand, time)
	case 'C':
		return shutHand(hand)
	case 'D':
		return done(port, time)
	case 'W':
		return wait(port, time)
	case 'U':
		c := update(ch(int(z>>4)%ports, time, int64(y>>7)*2-1))
		c.Hand = hand
		return c
	}
	if z == 255 {
		return shut
	}
	return fronts
}

// reads holds Read of some bytes, and that its plan may be (P18.1).
func reads(t *testing.T, b []byte, want script.Script) {
	t.Helper()
	s := script.Read(b)
	if !same(s, want) {
		t.Fatalf("of %v: %v, want %v", b, s, want)
	}
	if e := model.Check(s.Plan); e != nil {
		t.Fatalf("of %v: %v: %v", b, s.Plan, e)
	}
}
