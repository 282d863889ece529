package shell_test

import (
	"fmt"
	"regexp"
	"slices"
	"strconv"
	"strings"
	"testing"

	"marchland/api"
	"marchland/audit"
	"marchland/batch"
	"marchland/fault"
	"marchland/graph"
	"marchland/model"
	"marchland/script"
	"marchland/shell"
	"marchland/stamp"
	"marchland/tower"
)

// dice is a row of numbers that is the same each time.
type dice uint64

func (d *dice) roll(n int) int {
	*d = *d*6364136223846793005 + 1442695040888963407
	return int(uint64(*d)>>33) % n
}

func pick[T any](d *dice, l []T) T { return l[d.roll(len(l))] }

// talk holds replies: lines, each with its reply behind it.
func talk(t *testing.T, s *shell.Shell, l ...string) {
	t.Helper()
	for i := 0; i < len(l); i += 2 {
		if got := s.Do(l[i]); got != l[i+1] {
			t.Fatalf("line %d, %q: %q, want %q", i/2, l[i], got, l[i+1])
		}
	}
}

// oks holds that each of some lines is done.
func oks(t *testing.T, s *shell.Shell, l ...string) {
	t.Helper()
	for _, line := range l {
		talk(t, s, line, "ok")
	}
}

// told is a new one to which some lines were told, each of which is done.
func told(t *testing.T, l ...string) *shell.Shell {
	t.Helper()
	s := shell.New()
	oks(t, s, l...)
	return s
}

// looks are lines that tell of the tower, and change nothing.
func looks() []string {
	l := []string{"fronts", "left", "open", "entries", "check"}
	for who := range 9 {
		l = append(l, "held "+strconv.Itoa(who))
	}
	return l
}

// seen is what one tells of its tower.
func seen(s *shell.Shell) string {
	var b strings.Builder
	for _, line := range looks() {
		b.WriteString(line + ": " + s.Do(line) + "\n")
	}
	return b.String()
}

// rests holds that it comes to rest, be it with one line or with several.
func rests(t *testing.T, s *shell.Shell) {
	t.Helper()
	for range 8 {
		if s.Do("run 1000000") != "-1" {
			talk(t, s, "run 0", "0")
			return
		}
	}
	t.Fatalf("nobody comes to rest:\n%s", seen(s))
}

// till picks somebody till he has nothing to do.
func till(t *testing.T, s *shell.Shell, who int) int {
	t.Helper()
	for many := range 10000 {
		if s.Do(fmt.Sprint("pick ", who)) == "no" {
			return many
		}
	}
	t.Fatalf("%d goes on and on", who)
	return 0
}

// plain is a Shell told most plainly: its lines by a pattern, and what it has in layer 17's own.
type plain struct {
	plan, of model.Plan
	progs    map[int][]tower.Cmd
	w        *tower.Tower
}

func newPlain() *plain {
	return &plain{
		plan:  model.Plan{Graph: graph.Graph{Ports: 1, Inputs: []int{0}}, Threads: 1, Ring: 1, Shards: 1, Tries: 1},
		progs: map[int][]tower.Cmd{},
	}
}

const digits = `(0|[1-9][0-9]{0,5}|1000000)`

var form = regexp.MustCompile(`(?s)^(?:(threads|ring|shards|tries|pick|run|held) ` + digits +
	`|(begin|fronts|left|open|entries|check)|graph ([^ ]* [^ ]* [^ ]*)|do ` + digits + ` (.*))$`)

func (p *plain) do(line string) string {
	l := form.FindStringSubmatch(line)
	if l == nil {
		return "what"
	}
	n, _ := strconv.Atoi(l[2] + l[5])
	word := l[1] + l[3]
	switch {
	case word == "begin":
		return p.begin()
	case strings.HasPrefix(line, "do "):
		return p.program(n, l[6])
	case word == "":
		g, is := script.ParseGraph(l[4])
		if !is {
			return "graph"
		}
		p.plan.Graph = g
		return "ok"
	}
	if number := map[string]*int{"threads": &p.plan.Threads, "ring": &p.plan.Ring, "shards": &p.plan.Shards, "tries": &p.plan.Tries}[word]; number != nil {
		*number = n
		return "ok"
	}
	if p.w == nil {
		return "no tower"
	}
	return p.tell(word, n)
}

func (p *plain) program(who int, text string) string {
	c, e := script.Parse(text)
	switch {
	case who >= 8:
		return "thread"
	case e != api.OK:
		return "command"
	}
	p.progs[who] = append(p.progs[who], c)
	return "ok"
}

func (p *plain) begin() string {
	var l [][]tower.Cmd
	for who := range p.plan.Threads {
		l = append(l, p.progs[who])
	}
	w, e := tower.New(p.plan, l)
	if e == nil {
		p.w, p.of = w, p.plan
	}
	return fault.Text(e)
}

func (p *plain) tell(word string, n int) string {
	x := p.w.Track()
	switch word {
	case "pick":
		return map[bool]string{true: "yes", false: "no"}[p.w.Pick(n)]
	case "run":
		return fmt.Sprint(p.w.Rest(n))
	case "left":
		return p.left()
	case "held":
		o := x.Own(n)
		var l []string
		for _, h := range o.Hands {
			l = append(l, fmt.Sprintf("%d/%d/%d", h.Id, h.Port, h.Time))
		}
		return commas(l) + " " + changes(o.Held)
	case "open":
		return changes(audit.Open(p.of, x.Log()))
	case "entries":
		ended := 0
		for _, y := range x.Log() {
			ended += min(y.End, 1)
		}
		return fmt.Sprintf("%d %d", len(x.Log()), len(x.Log())-ended)
	case "check":
		return cmpOr(audit.Check(p.of, x.Log(), x.Mem().Log()), "ok")
	}
	return p.fronts()
}

func (p *plain) left() string {
	var l []string
	for who := range p.of.Threads {
		l = append(l, fmt.Sprint(p.w.Left(who), map[bool]string{true: "+"}[p.w.Waits(who)]))
	}
	return strings.Join(l, " ")
}

// fronts goes through all times, and does at each what has its Mark then.
func (p *plain) fronts() string {
	at := map[int]model.Op{}
	for _, x := range p.w.Track().Log() {
		at[x.Mark] = x.Op
	}
	m, _ := model.New(p.of)
	for time := 1; time <= p.w.Track().Mem().Time(); time++ {
		if o, any := at[time]; any {
			m.Do(o)
		}
	}
	var l []string
	for _, time := range m.Shown() {
		l = append(l, stamp.Text(time))
	}
	return strings.Join(l, " ")
}

func cmpOr(a, b string) string {
	if a == "" {
		return b
	}
	return a
}

func changes(b batch.Batch) string {
	var l []string
	for _, c := range b {
		l = append(l, fmt.Sprintf("%d/%d/%d", c.Port, c.Time, c.Diff))
	}
	return commas(l)
}

func commas(l []string) string { return cmpOr(strings.Join(l, ","), "none") }

// pair is a Shell and a plain one, to which the same lines are told.
type pair struct {
	t *testing.T
	s *shell.Shell
	p *plain
	l []string
}

func newPair(t *testing.T) *pair { return &pair{t: t, s: shell.New(), p: newPlain()} }

func (x *pair) do(line string) string {
	x.t.Helper()
	x.l = append(x.l, line)
	got, want := x.s.Do(line), x.p.do(line)
	if got != want {
		x.t.Fatalf("%q: %q, want %q, behind %q", line, got, want, x.l[max(0, len(x.l)-60):])
	}
	return got
}

func (x *pair) looks() {
	x.t.Helper()
	for _, line := range looks() {
		x.do(line)
	}
}

// some graphs, in words.
var graphs = []string{
	"1 - 0", "1 0/0/1 0", "2 0/1/1 0,1", "2 0/1/0,1/0/2 0", "3 0/1/3,1/2/0,2/0/1 0,2", "2 0/1/never 1,0", "4 0/1/1,0/2/2,1/3/0,2/3/0 3,0,1",
	"3 0/1/18446744073709551614,1/2/1 0,1,2", "64 0/63/5,63/1/1 0,9,18,27,36,45,54,63",
}

// command is one in words, of a few handles, ports and times, now and then of one that may not be.
func command(d *dice, ports int) string {
	hand, port, time := d.roll(4), d.roll(ports), d.roll(14)
	switch d.roll(20) {
	case 0, 1, 2:
		return fmt.Sprintf("open %d", hand)
	case 3, 4, 5, 6:
		return fmt.Sprintf("advance %d %d", hand, time)
	case 7, 8:
		return fmt.Sprintf("close %d", hand)
	case 9, 10, 11, 12:
		return fmt.Sprintf("update %d/%d/%d", port, time, pick(d, []int{1, 2, -1, 1000000, -2}))
	case 13:
		return fmt.Sprintf("update %d/%d/1,%d/%d/-1,%d/%d/3", port, time, d.roll(ports), d.roll(14), port, time+1)
	case 14, 15:
		return fmt.Sprintf("done %d %d", port, time)
	case 16, 17:
		return fmt.Sprintf("wait %d %d", port, time)
	case 18:
		return fmt.Sprintf("wait %d never", d.roll(min(ports+1, 64)))
	}
	return pick(d, []string{"fronts", "fronts", "fronts", "shut", "advance 0 never", "advance 0 18446744073709551614", "close 63", "done 63 4"})
}

// line is some line: what may be.
func line(d *dice) string {
	switch d.roll(24) {
	case 0:
		return "graph " + pick(d, graphs)
	case 1:
		return fmt.Sprintf("%s %d", pick(d, []string{"threads", "ring", "shards", "tries"}), pick(d, []int{1, 2, 1, 2, 4, 3, 8, 0, 9, 64}))
	case 2:
		return "begin"
	case 3, 4, 5, 6, 7:
		return fmt.Sprintf("do %d %s", d.roll(3), command(d, 2))
	case 8:
		return fmt.Sprintf("do %d %s", d.roll(10), command(d, 4))
	case 9, 10, 11, 12, 13, 14, 15:
		return fmt.Sprintf("pick %d", d.roll(4))
	case 16:
		return fmt.Sprintf("pick %d", d.roll(1000001))
	case 17:
		return fmt.Sprintf("run %d", pick(d, []int{0, 1, 2, 5, 40, 1000}))
	}
	return pick(d, looks())
}

// slip is a line with something else about it: mostly one that may not be.
func slip(d *dice, line string) string {
	b := []byte(line)
	i := d.roll(len(b))
	switch d.roll(6) {
	case 0:
		return string(slices.Delete(b, i, i+1))
	case 1:
		return string(slices.Insert(b, i, pick(d, []byte(" 0+-/,x\n\t9"))))
	case 2:
		b[i] = pick(d, []byte(" 0+-/,xX\n\t1\x00\xff"))
		return string(b)
	case 3:
		return line + pick(d, []string{" ", "\n", " 0", "0", "\t", " x", ","})
	case 4:
		return pick(d, []string{" ", "\n", "0", "\ufeff"}) + line
	}
	return strings.ToUpper(line[:i]) + line[i:]
}

// gather is a Shell with a tower of a plan, and of random programs, that was begun.
func gather(t *testing.T, d *dice, most int) (*shell.Shell, int, int) {
	t.Helper()
	s, threads, g := shell.New(), 1+d.roll(most), pick(d, graphs)
	oks(t, s, "graph "+g, fmt.Sprint("threads ", threads), fmt.Sprint("ring ", 1<<d.roll(3)), fmt.Sprint("shards ", 1+d.roll(3)), fmt.Sprint("tries ", 1+d.roll(3)))
	ports, _ := strconv.Atoi(g[:strings.Index(g, " ")])
	for who := range threads {
		for range d.roll(7) {
			oks(t, s, fmt.Sprintf("do %d %s", who, command(d, ports)))
		}
	}
	oks(t, s, "begin")
	return s, threads, ports
}
