package script_test

import (
	"math"
	"regexp"
	"slices"
	"strconv"
	"strings"
	"testing"

	"marchland/api"
	"marchland/graph"
	"marchland/model"
	"marchland/script"
)

// both holds the Line of a Cmd, and that it comes back (P18.2). (want: with what isn't in the line taken away.)
func both(t *testing.T, c cmd, line string, want cmd) {
	t.Helper()
	if s := script.Line(c); s != line {
		t.Errorf("%v: %q, want %q", c, s, line)
	}
	if d, e := script.Parse(line); e != api.OK || !sameCmd(d, want) {
		t.Errorf("%q: %v, %v, want %v", line, d, e, want)
	}
}

// noLine holds that a Cmd has none.
func noLine(t *testing.T, c cmd) {
	t.Helper()
	if s := script.Line(c); s != "" {
		t.Errorf("%v: %q", c, s)
	}
}

// noCmd holds that a text is no Cmd's Line.
func noCmd(t *testing.T, s string) {
	t.Helper()
	if c, e := script.Parse(s); e != api.ErrWord || !sameCmd(c, cmd{}) {
		t.Errorf("%q: %v, %v", s, c, e)
	}
}

// P18.1, P18.2: the document's example, and each Kind's.
func TestLines(t *testing.T) {
	for _, c := range []struct {
		c cmd
		s string
	}{
		{update(ch(0, 5, 1), ch(1, 7, -2)), "update 0/5/1,1/7/-2"},
		{open(0), "open 0"},
		{open(9), "open 9"},
		{open(63), "open 63"},
		{advance(0, 0), "advance 0 0"},
		{advance(63, 10), "advance 63 10"},
		{advance(7, never-1), "advance 7 18446744073709551614"},
		{advance(7, never), "advance 7 never"},
		{shutHand(0), "close 0"},
		{shutHand(63), "close 63"},
		{update(ch(0, 0, 0)), "update 0/0/0"},
		{update(ch(63, never, 1000000)), "update 63/never/1000000"},
		{update(ch(5, never-1, -1000000), ch(5, never-1, -1000000)), "update 5/18446744073709551614/-1000000,5/18446744073709551614/-1000000"},
		{fronts, "fronts"},
		{done(0, 0), "done 0 0"},
		{done(63, never), "done 63 never"},
		{wait(0, 7), "wait 0 7"},
		{wait(63, never-1), "wait 63 18446744073709551614"},
		{shut, "shut"},
	} {
		both(t, c.c, c.s, c.c)
	}
}

// P18.1: what isn't in a line counts for nothing, and is 0, or nothing, when it comes back.
func TestLinesLeaveTheRest(t *testing.T) {
	far := slices.Repeat([]change{ch(-1, 0, math.MinInt64)}, 40)
	for _, c := range []struct {
		c    cmd
		s    string
		want cmd
	}{
		{cmd{Port: 3, Time: 4, L: far}, "open 0", open(0)},
		{cmd{Kind: model.Advance, Port: -3, Time: 4, L: far}, "advance 0 4", advance(0, 4)},
		{cmd{Kind: model.Close, Hand: 2, Port: 99, Time: 4, L: far}, "close 2", shutHand(2)},
		{cmd{Kind: model.Update, Hand: -7, Port: 64, Time: 4, L: []change{ch(1, 2, 3)}}, "update 1/2/3", update(ch(1, 2, 3))},
		{cmd{Kind: model.Fronts, Hand: -7, Port: 64, Time: 4, L: far}, "fronts", fronts},
		{cmd{Kind: model.Done, Hand: 64, Port: 1, Time: 4, L: far}, "done 1 4", done(1, 4)},
		{cmd{Kind: model.Wait, Hand: math.MinInt, Port: 1, Time: 4, L: far}, "wait 1 4", wait(1, 4)},
		{cmd{Kind: model.Shut, Hand: -1, Port: -1, Time: 4, L: far}, "shut", shut},
	} {
		both(t, c.c, c.s, c.want)
	}
}

// P18.1: Cmds that have no Line.
func TestNoLines(t *testing.T) {
	for _, kind := range []int{math.MinInt, -8, -2, -1, 8, 9, 10, 11, 12, 16, 1 << 32, math.MaxInt} {
		noLine(t, cmd{Kind: kind})
		noLine(t, cmd{Kind: kind, Hand: 1, Port: 1, Time: 1, L: []change{ch(1, 2, 3)}})
	}
	for _, n := range []int{math.MinInt, -64, -2, -1, 64, 65, 100, 1 << 32, math.MaxInt} {
		for _, c := range []cmd{open(n), advance(n, 0), shutHand(n), done(n, 0), wait(n, 0), update(ch(n, 0, 1))} {
			noLine(t, c)
		}
	}
	noLine(t, update())
	noLine(t, update([]change{}...))
	for _, n := range []int64{math.MinInt64, -api.MaxCount, -1000002, -1000001, 1000001, 1000002, api.MaxCount, math.MaxInt64} {
		for place := range 16 {
			l := slices.Repeat([]change{ch(1, 2, 3)}, 16)
			l[place].Diff = n
			noLine(t, update(l...))
			l[place] = ch(64, 2, 3)
			noLine(t, update(l...))
			l[place] = ch(-1, 2, 3)
			noLine(t, update(l...))
		}
	}
	for n := 1; n < 40; n++ {
		c := update(slices.Repeat([]change{ch(1, 2, 3)}, n)...)
		if n > 16 {
			noLine(t, c)
			noCmd(t, "update "+strings.Repeat("1/2/3,", n-1)+"1/2/3")
			continue
		}
		both(t, c, "update "+strings.Repeat("1/2/3,", n-1)+"1/2/3", c)
	}
}

// P18.1, P18.2: all numbers that there may be of handles and ports, and some Diffs.
func TestNumbersInLines(t *testing.T) {
	for n := range 64 {
		s := strconv.Itoa(n)
		both(t, open(n), "open "+s, open(n))
		both(t, shutHand(n), "close "+s, shutHand(n))
		both(t, advance(n, 5), "advance "+s+" 5", advance(n, 5))
		both(t, done(n, 5), "done "+s+" 5", done(n, 5))
		both(t, wait(n, 5), "wait "+s+" 5", wait(n, 5))
		both(t, update(ch(n, 5, 1)), "update "+s+"/5/1", update(ch(n, 5, 1)))
	}
	for _, n := range []int64{-1000000, -999999, -10, -9, -1, 0, 1, 9, 10, 999999, 1000000} {
		both(t, update(ch(0, 5, n)), "update 0/5/"+strconv.FormatInt(n, 10), update(ch(0, 5, n)))
	}
}

// P18.1: texts that are no Cmd's.
func TestNoCmds(t *testing.T) {
	for _, s := range []string{
		"", " ", "  ", "what", "Open 0", "OPEN 0", "opens 0", "ope 0", "0", "-1", "never", "put", "put 0", "drain", "pop 0", "show", "8", "open\t0", "open\n0",
		"open", "open ", "open  0", " open 0", "open 0 ", "open 0 0", "open 64", "open -1", "open -0", "open +1", "open 00", "open 01", "open 0x1", "open 1_0", "open never", "open a", "open 1e1",
		"open 99999999999999999999", "open 18446744073709551616", "open 9223372036854775808", "open \u0661", "open 0\x00",
		"advance", "advance ", "advance 0", "advance 0 ", "advance  0", "advance 0  1", "advance 0 1 ", "advance 0 1 2", "advance 64 1", "advance -1 1", "advance 0 -1", "advance 0 +1", "advance 0 01", "advance 0 Never", "advance 0 NEVER", "advance 0 18446744073709551615", "advance 0 18446744073709551616", "advance never 0", "advance 0 never ", "advance 0 nevern",
		"close", "close ", "close 64", "close 0 1", "close 00", "close -1",
		"update", "update ", "update ,", "update 0", "update 0/5", "update 0/5/", "update /5/1", "update 0//1", "update 0/5/1/", "update 0/5/1/2", "update 0/5/1,", "update ,0/5/1", "update 0/5/1,,0/5/1", "update 0/5/1, 0/5/1", "update 0/5/1 0/5/1", "update 0/5/1 ", "update  0/5/1", "update 0 /5/1", "update 0/5/+1", "update 0/5/01", "update 0/5/-01", "update 0/5/-0", "update 0/5/--1", "update 0/5/-", "update 0/5/never", "update never/5/1", "update 0/-5/1", "update 0/05/1", "update 00/5/1", "update -1/5/1", "update 64/5/1", "update 0/5/1000001", "update 0/5/-1000001", "update 0/5/9223372036854775808", "update 0/18446744073709551615/1", "update 0,5,1", "update 0/5/1;0/5/1", "update 0/5/1,0/5",
		"fronts ", " fronts", "fronts 0", "front", "frontss", "Fronts",
		"done", "done ", "done 0", "done 0 ", "done 64 0", "done -1 0", "done 0 0 0", "done 0  0", "done 00 0", "done 0 00", "done 0/0", "done 0,0",
		"wait", "wait ", "wait 0", "wait 0 ", "wait 64 0", "wait -1 0", "wait 0 0 0", "wait 0  0", "wait 00 0", "wait 0 00",
		"shut ", " shut", "shut 0", "shu", "Shut", "shut\n", "shut shut",
	} {
		noCmd(t, s)
	}
}

const timeForm = `(?:0|[1-9][0-9]*|never)`

// formed is a form of texts: P is a number up to 63, T a time, D a Diff, N any number.
func formed(form string) *regexp.Regexp {
	parts := strings.NewReplacer("P", `(?:[0-9]|[1-5][0-9]|6[0-3])`, "T", timeForm, "D", `(?:0|-?[1-9][0-9]{0,5}|-?1000000)`, "N", `(?:0|[1-9][0-9]*)`)
	return regexp.MustCompile(parts.Replace(form))
}

// looksLikeLine: what is left is how great times are.
var (
	looksLikeLine = formed(`^(?:(?:open|close) P|(?:advance|done|wait) P T|fronts|shut|update P/T/D(?:,P/T/D){0,15})$`)
	digits        = regexp.MustCompile(`[0-9]+`)
)

// timesFit: is no time in a text 2^64 - 1, or more? (Other numbers of so many digits aren't of the form.)
func timesFit(s string) bool {
	for _, n := range digits.FindAllString(s, -1) {
		if len(n) > 20 || len(n) == 20 && n >= "18446744073709551615" {
			return false
		}
	}
	return true
}

// anyText changes a text here and there by some of its own sort.
func anyText(d *dice, s string) string {
	bits := []string{"0", "1", "6", "3", "4", "-", "+", " ", "  ", "/", ",", "never", "00", "1000000", "18446744073709551615", "18446744073709551614", "a", "update ", "0/5/1", "x", "\n", ""}
	for range d.roll(3) {
		i := d.roll(len(s) + 1)
		j := min(len(s), i+d.roll(3))
		s = s[:i] + pick(d, bits) + s[j:]
	}
	return s
}

func (d *dice) time() uint64 {
	return pick(d, []uint64{0, 1, 9, 10, 15, 1 << 32, 1<<63 - 1, 1 << 63, never - 1, never, uint64(d.roll(1000))})
}

// anyCmd may have a Line, or none.
func anyCmd(d *dice) cmd {
	c := cmd{Kind: d.roll(8), Hand: d.roll(66) - 1, Port: d.roll(66) - 1, Time: d.time()}
	if d.roll(20) == 0 {
		c.Kind = d.roll(20) - 6
	}
	for range d.roll(18) {
		c.L = append(c.L, ch(d.roll(64), d.time(), int64(d.roll(2000001)-1000000)))
	}
	if len(c.L) > 0 && d.roll(6) == 0 {
		c.L[d.roll(len(c.L))] = ch(d.roll(66)-1, 5, int64(d.roll(2000005)-1000002))
	}
	return c
}

// bare is a Cmd with what is in its Line alone.
func bare(c cmd) cmd {
	switch c.Kind {
	case model.Open, model.Close:
		return cmd{Kind: c.Kind, Hand: c.Hand}
	case model.Advance:
		return cmd{Kind: c.Kind, Hand: c.Hand, Time: c.Time}
	case model.Update:
		return cmd{Kind: c.Kind, L: c.L}
	case model.Done, model.Wait:
		return cmd{Kind: c.Kind, Port: c.Port, Time: c.Time}
	}
	return cmd{Kind: c.Kind}
}

func small(n int) bool { return n >= 0 && n <= 63 }

// told: has a Cmd a Line?
func told(c cmd) bool {
	switch c.Kind {
	case model.Open, model.Close, model.Advance:
		return small(c.Hand)
	case model.Update:
		bad := func(x change) bool { return !small(x.Port) || x.Diff > 1000000 || x.Diff < -1000000 }
		return len(c.L) > 0 && len(c.L) < 17 && !slices.ContainsFunc(c.L, bad)
	case model.Done, model.Wait:
		return small(c.Port)
	}
	return c.Kind == model.Fronts || c.Kind == model.Shut
}

// P18.2: any Cmd that has a Line comes back; of texts that are like one those alone are one that look like it, and these
// come back, too.
func TestLinesComeBack(t *testing.T) {
	d := dice(11)
	various := map[bool]int{}
	for range 20000 {
		c := anyCmd(&d)
		s := script.Line(c)
		if told(c) != (s != "") {
			t.Fatalf("%v: %q", c, s)
		}
		if s == "" {
			continue
		}
		if !looksLikeLine.MatchString(s) || !timesFit(s) {
			t.Fatalf("%v: %q", c, s)
		}
		both(t, c, s, bare(c))
		s = anyText(&d, s)
		is := looksLikeLine.MatchString(s) && timesFit(s)
		various[is]++
		if !is {
			noCmd(t, s)
		} else if c, e := script.Parse(s); e != api.OK || script.Line(c) != s || !sameCmd(c, bare(c)) {
			t.Fatalf("%q: %v, %v", s, c, e)
		}
		if t.Failed() {
			return
		}
	}
	if various[true] < 2000 || various[false] < 2000 {
		t.Errorf("they are too much alike: %v", various)
	}
}

// P18.2: all short texts after each word.
func TestShortLines(t *testing.T) {
	letters := []string{"", "0", "1", "6", "9", "-", "/", ",", " ", "never"}
	for _, word := range []string{"open", "advance", "close", "update", "fronts", "done", "wait", "shut", "put", ""} {
		many := 10000
		if word == "update" {
			many = 100000
		}
		for n := range many {
			s := word + " "
			for ; n > 0; n /= 10 {
				s += letters[n%10]
			}
			c, e := script.Parse(s)
			if (e == api.OK) != looksLikeLine.MatchString(s) || e == api.OK && script.Line(c) != s || e != api.OK && (e != api.ErrWord || !sameCmd(c, cmd{})) {
				t.Fatalf("%q: %v, %v", s, c, e)
			}
		}
	}
}

// P18.1, P18.2: what Read says has Lines, by which it comes back (but for an Update's handle, which isn't in its line).
func TestLinesOfBytes(t *testing.T) {
	d := dice(12)
	for range 300 {
		s := script.Read(d.bytes(20 + d.roll(200)))
		for _, l := range s.Progs {
			for _, c := range l {
				both(t, c, script.Line(c), bare(c))
			}
		}
		if g, ok := script.ParseGraph(script.Graph(s.Plan.Graph)); !ok || !sameGraph(g, s.Plan.Graph) {
			t.Fatal(s.Plan.Graph)
		}
	}
}

// P18.3: the Changes of a Cmd aren't changed, and what is answered is nobody else's.
func TestLineKeepsNothing(t *testing.T) {
	l := []change{ch(0, 5, 1), ch(64, 5, 1), ch(7, 7, 7)}
	before := slices.Clone(l)
	for n := range len(l) + 1 {
		script.Line(update(l[:n]...))
		if !slices.Equal(l, before) {
			t.Fatal(l)
		}
	}
	s := "update 0/5/1,1/7/-2"
	a, _ := script.Parse(s)
	b, _ := script.Parse(s)
	over(a.L, ch(9, 9, 9))
	if c, _ := script.Parse(s); !slices.Equal(b.L, []change{ch(0, 5, 1), ch(1, 7, -2)}) || !slices.Equal(c.L, b.L) {
		t.Error("two share something")
	}
}

// graphs holds the text of a Graph, and that it comes back.
func graphs(t *testing.T, g graph.Graph, s string) {
	t.Helper()
	if got := script.Graph(g); got != s {
		t.Errorf("%v: %q, want %q", g, got, s)
	}
	if got, ok := script.ParseGraph(s); !ok || !sameGraph(got, g) {
		t.Errorf("%q: %v, %v, want %v", s, got, ok, g)
	}
}

func noGraph(t *testing.T, s string) {
	t.Helper()
	if g, ok := script.ParseGraph(s); ok || !sameGraph(g, graph.Graph{}) {
		t.Errorf("%q: %v, %v", s, g, ok)
	}
}

// P18.1, P18.2
func TestGraphs(t *testing.T) {
	graphs(t, graph.Graph{Ports: 1, Inputs: []int{0}}, "1 - 0")
	graphs(t, graph.Graph{Ports: 1, Edges: []edge{way(0, 0, 1)}, Inputs: []int{0}}, "1 0/0/1 0")
	graphs(t, graph.Graph{Ports: 3, Edges: []edge{way(0, 1, 3), way(1, 2, never)}, Inputs: []int{0, 2}}, "3 0/1/3,1/2/never 0,2")
	graphs(t, graph.Graph{Ports: 2, Edges: []edge{way(1, 0, 0), way(1, 0, 0), way(0, 1, never-1)}, Inputs: []int{1, 0}}, "2 1/0/0,1/0/0,0/1/18446744073709551614 1,0")
	graphs(t, graph.Graph{Ports: 64, Edges: []edge{way(63, 63, 10), way(10, 9, 0)}, Inputs: []int{63, 10, 9, 8, 3, 2, 1, 0}}, "64 63/63/10,10/9/0 63,10,9,8,3,2,1,0")
	most := graph.Graph{Ports: 2, Edges: slices.Repeat([]edge{way(0, 1, 7)}, 256), Inputs: []int{0}}
	graphs(t, most, "2 "+strings.Repeat("0/1/7,", 255)+"0/1/7 0")
	noGraph(t, "2 "+strings.Repeat("0/1/7,", 256)+"0/1/7 0")
}

// P18.1: of a Graph that may not be there is no text.
func TestNoGraphText(t *testing.T) {
	for _, g := range []graph.Graph{
		{},
		{Ports: 1},
		{Ports: 0, Inputs: []int{0}},
		{Ports: -1, Inputs: []int{0}},
		{Ports: 65, Inputs: []int{0}},
		{Ports: math.MaxInt, Inputs: []int{0}},
		{Ports: 1, Inputs: []int{1}},
		{Ports: 1, Inputs: []int{-1}},
		{Ports: 1, Inputs: []int{0, 0}},
		{Ports: 9, Inputs: []int{0, 1, 2, 3, 4, 5, 6, 7, 8}},
		{Ports: 1, Edges: []edge{way(0, 0, 0)}, Inputs: []int{0}},
		{Ports: 1, Edges: []edge{way(0, 1, 1)}, Inputs: []int{0}},
		{Ports: 1, Edges: []edge{way(-1, 0, 1)}, Inputs: []int{0}},
		{Ports: 2, Edges: []edge{way(0, 1, 0), way(1, 0, 0)}, Inputs: []int{0}},
		{Ports: 2, Edges: slices.Repeat([]edge{way(0, 1, 7)}, 257), Inputs: []int{0}},
	} {
		if s := script.Graph(g); s != "" {
			t.Errorf("%v: %q", g, s)
		}
	}
}

// P18.1: texts that are no Graph's.
func TestNoGraphs(t *testing.T) {
	for _, s := range []string{
		"", " ", "  ", "-", "1", "1 ", "1 -", "1 - ", " 1 - 0", "1 - 0 ", "1  - 0", "1 -  0", "1 - 0 0", "1  0", "1 0", "1 - -", "- - 0", "1 -- 0", "1 -, 0", "1 ,- 0", "1 - 0,", "1 - ,0", "1 - 0,,1",
		"0 - 0", "65 - 0", "-1 - 0", "+1 - 0", "01 - 0", "one - 0", "9999999999999999999999 - 0", "never - 0", "1\t-\t0", "1 - 0\n", "1-0", "1,-,0",
		"1 - 1", "1 - -1", "1 - +0", "1 - 00", "1 - -0", "1 - never", "1 - 0,0", "2 - 0,1,0", "2 - 0, 1", "2 - 0 1", "9 - 0,1,2,3,4,5,6,7,8", "1 - 18446744073709551616",
		"1 0/0/0 0", "1 0/0 0", "1 0/0/ 0", "1 /0/1 0", "1 0//1 0", "1 0/0/1/ 0", "1 0/0/1/1 0", "1 0/0/1, 0", "1 ,0/0/1 0", "1 0/0/1,,0/0/1 0", "1 0/0/1,- 0", "1 -,0/0/1 0", "1 0/0/-1 0", "1 0/0/+1 0", "1 0/0/01 0", "1 0/0/Never 0", "1 0/0/18446744073709551615 0", "1 0/0/18446744073709551616 0",
		"1 0/1/1 0", "1 1/0/1 0", "1 -1/0/1 0", "1 00/0/1 0", "1 0/00/1 0", "1 0/+0/1 0", "1 never/0/1 0", "2 0/1/0,1/0/0 0", "2 0/1/0 2", "2 0/1/0 ", "2 0/1/0",
		"graph 1 - 0", "x 0/0/1 0", "1 x 0", "1 0/0/1 x",
	} {
		noGraph(t, s)
	}
}

var looksLikeGraph = formed(`^N (?:-|N/N/T(?:,N/N/T)*) N(?:,N)*$`)

// anyGraph may be one that may not be.
func anyGraph(d *dice) graph.Graph {
	g := graph.Graph{Ports: 1 + d.roll(pick(d, []int{3, 3, 3, 4, 5, 12, 64}))}
	for range d.roll(6) {
		g.Edges = append(g.Edges, way(d.roll(g.Ports), d.roll(g.Ports), pick(d, []uint64{0, 1, 1, 2, d.time()})))
	}
	for range 1 + d.roll(3) {
		g.Inputs = append(g.Inputs, d.roll(g.Ports))
	}
	if d.roll(20) == 0 {
		g.Inputs = nil
	}
	return g
}

// P18.2: any Graph that may be comes back; of texts that are like one's those alone are one's that look like it, and
// these come back, too.
func TestGraphsComeBack(t *testing.T) {
	d := dice(13)
	various := map[bool]int{}
	for range 20000 {
		g := anyGraph(&d)
		s := script.Graph(g)
		if (graph.Check(g) == nil) != (s != "") {
			t.Fatalf("%v: %q", g, s)
		}
		if s == "" {
			continue
		}
		graphs(t, g, s)
		s = anyText(&d, s)
		g, ok := script.ParseGraph(s)
		if ok != (looksLikeGraph.MatchString(s) && timesFit(s) && mayBe(s)) {
			t.Fatalf("%q: %v, %v", s, g, ok)
		}
		various[ok]++
		if !ok {
			noGraph(t, s)
		} else if script.Graph(g) != s {
			t.Fatalf("%q: %v", s, g)
		}
		if t.Failed() {
			return
		}
	}
	if various[true] < 2000 || various[false] < 2000 {
		t.Errorf("they are too much alike: %v", various)
	}
}

// mayBe: is a text that looks like a Graph's one of a Graph that may be?
func mayBe(s string) bool {
	words := strings.Split(s, " ")
	n := func(s string) int {
		n, e := strconv.Atoi(s)
		if e != nil {
			return -1
		}
		return n
	}
	g := graph.Graph{Ports: n(words[0])}
	if words[1] != "-" {
		for _, e := range strings.Split(words[1], ",") {
			parts := strings.Split(e, "/")
			add, e := strconv.ParseUint(parts[2], 10, 64)
			if e != nil {
				add = never
			}
			g.Edges = append(g.Edges, way(n(parts[0]), n(parts[1]), add))
		}
	}
	for _, i := range strings.Split(words[2], ",") {
		g.Inputs = append(g.Inputs, n(i))
	}
	return graph.Check(g) == nil
}

// P18.3: a Graph isn't changed, and what is answered is nobody else's.
func TestGraphKeepsNothing(t *testing.T) {
	g := graph.Graph{Ports: 3, Edges: []edge{way(0, 1, 3), way(1, 2, never), way(9, 9, 9)}, Inputs: []int{0, 2, 9}}
	before := graph.Graph{Ports: 3, Edges: slices.Clone(g.Edges), Inputs: slices.Clone(g.Inputs)}
	script.Graph(g)
	script.Graph(graph.Graph{Ports: 3, Edges: g.Edges[:2], Inputs: g.Inputs[:2]})
	if !sameGraph(g, before) {
		t.Error(g)
	}
	s := "3 0/1/3,1/2/never 0,2"
	a, _ := script.ParseGraph(s)
	b, _ := script.ParseGraph(s)
	over(a.Edges, way(9, 9, 9))
	over(a.Inputs, 9)
	if script.Graph(b) != s {
		t.Error("two share something")
	}
	graphs(t, b, s)
}

// P1: texts of any length, and any bytes in them.
func TestAnyTexts(t *testing.T) {
	for _, s := range []string{",", "/", " ", "0", "-", "0/5/1,", "0,", "never", "0/0/", "\xff"} {
		long := strings.Repeat(s, 300000)
		for _, head := range []string{"", "update ", "open ", "advance 0 ", "done ", "1 ", "1 - ", "2 0/1/1,"} {
			noCmd(t, head+long)
			noGraph(t, head+long)
		}
	}
	d := dice(14)
	for range 20000 {
		s := string(d.bytes(d.roll(12)))
		if c, e := script.Parse(s); e != api.ErrWord {
			t.Errorf("%q: %v", s, c)
		}
		if g, ok := script.ParseGraph(s); ok && script.Graph(g) != s {
			t.Errorf("%q: %v", s, g)
		}
	}
	noLine(t, update(slices.Repeat([]change{ch(0, 5, 1)}, 1000000)...))
}
