package shell_test

import (
	"fmt"
	"slices"
	"strconv"
	"strings"
	"testing"

	"marchland/shell"
)

// P20.1: the document's example, of the chapter and of the whole.
func TestExample(t *testing.T) {
	l := []string{"do 0 advance 0 5", "begin", "run 100000", "fronts"}
	s := shell.New()
	oks(t, s, l[:2]...)
	if n, e := strconv.Atoi(s.Do(l[2])); e != nil || n < 1 || n > 100000 {
		t.Errorf("run: %d, %v", n, e)
	}
	talk(t, s, l[3], "5")
	got := shell.Lines(l)
	if n, e := strconv.Atoi(got[2]); len(got) != 4 || got[0] != "ok" || got[1] != "ok" || e != nil || n < 1 || got[3] != "5" {
		t.Errorf("Lines: %q", got)
	}
}

// P20.1: a new one has no tower, no programs, and a plan of as little as there may be.
func TestNew(t *testing.T) {
	s := shell.New()
	for _, line := range append(looks(), "pick 0", "pick 1000000", "run 0", "run 1000000", "held 1000000") {
		talk(t, s, line, "no tower")
	}
	talk(t, s, "begin", "ok", "fronts", "0", "left", "0", "held 0", "0/0/0 none", "held 1", "none none", "open", "none", "entries", "0 0", "check", "ok", "pick 0", "no", "pick 2", "no")
	for _, line := range []string{"graph 1 - 0", "threads 1", "ring 1", "shards 1", "tries 1"} {
		l := []string{"do 0 advance 0 5", "do 0 update 0/7/1", "do 0 advance 0 6", "do 0 fronts", "begin"}
		other, same := told(t, append(l, line, "begin")...), told(t, l...)
		for k := range 300 {
			// Now the one alone, now the other one alone, and then in turn.
			who := fmt.Sprint("pick ", []int{0, 1, k}[k/100])
			if a, b := other.Do(who), same.Do(who); a != b || seen(other) != seen(same) {
				t.Fatalf("behind %q: %q, %q\n%s\n%s", line, a, b, seen(other), seen(same))
			}
		}
	}
}

// P20.1: lines that are none, with a tower and ahead of one, where they are none likewise; and they change nothing.
func TestWhat(t *testing.T) {
	wrong := []string{
		"", " ", "  ", "\n", "x", "0", "what", "ok", "no tower", "Begin", "BEGIN", "begin ", " begin", "begin 0", "begin  ", "begin\n", "\tbegin", "begi", "beginn", "begin begin", "be gin",
		"fronts ", " fronts", "fronts 0", "front", "left ", "left 0", "lefts", "open ", "open 0", "opens", "entries ", "entries 1", "entry", "check ", "check 0", "checks", "check ok",
		"graph", "graph ", "graph 2", "graph 2 -", "graph  ", "graph 2 - 0 ", " graph 2 - 0", "graph 2 - 0 0", "graph 2  - 0", "graph  2 - 0", "graph 2 0/1/1, 1/0/1 0", "graphs 2 - 0", "graph\t2 - 0", "Graph 2 - 0",
		"do", "do ", "do 0", "do 8", "do  ", "do x", "do x shut", "do  shut", "do shut 0", "do  0 shut", " do 0 shut", "do 00 shut", "do -1 shut", "do +1 shut", "do 1000001 shut", "do 99999999999999999999 shut", "do 0\tshut", "Do 0 shut", "dо 0 shut",
		"advance 0 5", "shut", "update 0/5/1", "wait 0 5", "close 0", "done 0 5", "open 0 0", "plan", "tower", "model", "port", "edges 2", "ports 2", "hold 0", "held", "held ", "held x", "held 0 0", "held 0 ", "held  0", "held -1",
		"pick", "run", "pick ", "run ", "pick 0 1", "run 0 1", "pick  0", "run  0", " pick 0", "pick0", "pick\t0", "pick\n0", "Pick 0", "picks 0", "rest 0", "step", "quit", "exit", "help",
		"threads", "ring", "shards", "tries", "threads ", "threads two", "threads 1 2", "thread 1", "rings 1", "shard 1", "try 1", "1 threads",
		"fronts\x00", "\xff", "begin\xff", "fronts\u00a0", "pick\u00a00", "pick \u0663", strings.Repeat(" ", 1000), strings.Repeat("begin ", 1000), strings.Repeat("9", 5000),
	}
	lines := []string{"graph 2 0/1/1 0,1", "threads 2", "do 0 advance 0 5", "do 1 wait 0 4"}
	s, quiet := told(t, lines...), told(t, lines...)
	for _, line := range wrong {
		talk(t, s, line, "what", "fronts", "no tower")
	}
	oks(t, s, "begin", "begin")
	oks(t, quiet, "begin")
	for range 3 {
		if a, b := seen(s), seen(quiet); a != b {
			t.Fatalf("behind what is none:\n%s\nwithout it:\n%s", a, b)
		}
		for _, line := range wrong {
			talk(t, s, line, "what")
		}
		talk(t, s, "run 3", quiet.Do("run 3"))
	}
}

// P20.1: what is a number, in each line that has one.
func TestNumbers(t *testing.T) {
	right := []string{"0", "1", "7", "9", "10", "42", "100", "999999", "1000000"}
	wrong := []string{
		"", "1000001", "1000009", "9999999", "10000000", "01", "00", "000001", "0000000", "-1", "-0", "+1", "+0", "1.0", "1.", ".1", "1e3", "0x1", "1_0", "1,0", "1/0", "x", "1x", "x1", "٣", "１", "one", "1\n", "\n1", "1\t", "1\x00",
		"9223372036854775807", "9223372036854775808", "18446744073709551615", "18446744073709551616", "18446744073709551617", "4294967296", "4294967297", "-9223372036854775808", strings.Repeat("0", 400), strings.Repeat("1", 400), "never",
	}
	for _, word := range []string{"threads", "ring", "shards", "tries", "pick", "run", "held"} {
		s := told(t, "begin")
		for _, n := range right {
			if got := s.Do(word + " " + n); got == "what" || got == "no tower" {
				t.Errorf("%s %s: %q", word, n, got)
			}
		}
		before := seen(s)
		for _, n := range wrong {
			talk(t, s, word+" "+n, "what")
		}
		if seen(s) != before {
			t.Errorf("%s changed\n%s\ninto\n%s", word, before, seen(s))
		}
	}
	s := shell.New()
	for _, n := range wrong {
		talk(t, s, "do "+n+" shut", "what")
	}
	for _, n := range right[3:] {
		talk(t, s, "do "+n+" shut", "thread")
	}
	for _, word := range []string{"threads", "ring", "shards", "tries"} {
		for _, n := range right {
			talk(t, shell.New(), word+" "+n, "ok")
		}
	}
}

// P20.1: the plan's numbers are those that were said last, each its own.
func TestPlanNumbers(t *testing.T) {
	for _, c := range []struct{ line, reply string }{
		{"threads 0", "threads 0: argument"}, {"threads 9", "threads 9: argument"}, {"threads 1000000", "threads 1000000: argument"}, {"threads 8", "ok"}, {"threads 1", "ok"},
		{"ring 0", "ring 0: argument"}, {"ring 3", "ring 3: argument"}, {"ring 128", "ring 128: argument"}, {"ring 1000000", "ring 1000000: argument"}, {"ring 64", "ok"}, {"ring 2", "ok"},
		{"shards 0", "shards 0: argument"}, {"shards 9", "shards 9: argument"}, {"shards 8", "ok"}, {"shards 3", "ok"},
		{"tries 0", "tries 0: argument"}, {"tries 9", "tries 9: argument"}, {"tries 1000000", "tries 1000000: argument"}, {"tries 8", "ok"}, {"tries 3", "ok"},
	} {
		s := told(t, c.line)
		talk(t, s, "begin", c.reply, "begin", c.reply)
		word, _, _ := strings.Cut(c.line, " ")
		oks(t, s, word+" 1", "begin")
	}
	s := told(t, "tries 11", "shards 12", "ring 13", "threads 14")
	talk(t, s, "begin", "threads 14: argument", "threads 2", "ok", "begin", "ring 13: argument", "ring 2", "ok", "begin", "shards 12: argument", "shards 2", "ok", "begin", "tries 11: argument", "fronts", "no tower", "tries 2", "ok", "begin", "ok", "left", "0 0")
}

// P20.1: each of the plan's numbers is what the tower has: how many there may be of a thing shows.
func TestPlanCounts(t *testing.T) {
	for n := 1; n <= 8; n++ {
		s := told(t, fmt.Sprint("threads ", n), "begin")
		talk(t, s, "left", strings.TrimSpace(strings.Repeat("0 ", n)), fmt.Sprint("held ", n-1), map[bool]string{true: "0/0/0 none", false: "none none"}[n == 1], fmt.Sprint("pick ", n), "yes")
	}
	// A pool of more shards takes more accesses to go through, a shot of more tries doesn't.
	steps := map[string]int{}
	for _, line := range []string{"shards 1", "shards 2", "shards 8", "tries 8"} {
		s := told(t, line, "begin")
		steps[line] = till(t, s, 1)
	}
	if steps["shards 1"] >= steps["shards 2"] || steps["shards 2"] >= steps["shards 8"] || steps["shards 1"] != steps["tries 8"] {
		t.Errorf("steps of the drainer: %v", steps)
	}
}

// P20.1: a graph is all behind the first blank, of three words; one that is none leaves the one that was.
func TestGraph(t *testing.T) {
	s := shell.New()
	talk(t, s, "graph 2 0/1/1 0,1", "ok", "threads 2", "ok", "begin", "ok", "fronts", "0 0", "held 0", "0/0/0 none", "held 1", "1/1/0 none")
	for _, text := range []string{"2 0/1/1 0,0", "0 - 0", "65 - 0", "1 - 1", "1 0/1/1 0", "1 0/0/0 0", "2 0/1/0,1/0/0 0", "2 0/1/1, 0", "2  0", " - 0", "2 - ", "  ", "02 - 0", "2 -- 0", "2 - 0,", "x y z", "2 0/1 0", "2 0/1/1/1 0", "3 - 0/1", "1 - 0\n", "begin begin begin", "2 0/1/Never 0", "1 0/0/18446744073709551615 0"} {
		talk(t, s, "graph "+text, "graph")
		oks(t, s, "begin")
		talk(t, s, "fronts", "0 0", "held 1", "1/1/0 none")
	}
	talk(t, s, "graph 3 0/1/1,1/2/never 2", "ok", "fronts", "0 0", "begin", "ok", "fronts", "0 0 0", "held 0", "0/2/0 none", "held 1", "none none")
	rests(t, s)
	talk(t, s, "fronts", "never never 0")
	long := "graph 64 0/1/1" + strings.Repeat(",0/1/1", 255) + " 0"
	talk(t, s, long, "ok", "begin", "ok", "fronts", strings.TrimSpace(strings.Repeat("0 ", 64)))
	talk(t, s, strings.Replace(long, " 0/1/1", " 0/1/1,0/1/1", 1), "graph")
}

// P20.1: a command comes behind the program of a thread: each of the eight Kinds, as it is.
func TestDo(t *testing.T) {
	s := told(t, "graph 2 0/1/1 0,1")
	for _, text := range []string{"open 0", "advance 0 5", "update 0/5/1,1/6/2", "update 0/5/-1", "close 0", "fronts", "done 0 4", "shut", "wait 1 3"} {
		oks(t, s, "do 0 "+text)
	}
	talk(t, s, "left", "no tower", "begin", "ok")
	left := []string{s.Do("left")}
	for s.Do("pick 0") == "yes" {
		left = append(left, s.Do("left"))
	}
	if want := strings.Fields("9 8 7 6 5 4 3 2 1 0"); !slices.Equal(slices.Compact(left), want) {
		t.Errorf("left %q, want %q", left, want)
	}
	rests(t, s)
	talk(t, s, "held 0", "1/1/0,2/0/0 1/6/2", "fronts", "0 0", "check", "ok", "open", "none")
}

// P20.1: the commands of a program are done in the order in which they came.
func TestDoInOrder(t *testing.T) {
	s := told(t, "do 0 advance 0 1", "do 0 advance 0 3", "do 0 advance 0 2", "do 0 update 0/4/5", "do 0 advance 0 9", "do 0 update 0/8/1", "begin")
	rests(t, s)
	// The third one goes back, and nothing lets 0 8 be any more but the stamps at 4.
	talk(t, s, "held 0", "0/0/9 0/4/5,0/8/1", "fronts", "4", "left", "0")
}

// P20.1: what is wrong with a do, the thread ahead of the command; nothing is done.
func TestDoRefuses(t *testing.T) {
	s := told(t, "threads 8")
	for _, c := range []struct{ line, reply string }{
		{"do 8 shut", "thread"}, {"do 9 shut", "thread"}, {"do 64 shut", "thread"}, {"do 1000000 shut", "thread"},
		{"do 8 x", "thread"}, {"do 8 ", "thread"}, {"do 8  ", "thread"}, {"do 1000000 advance 0", "thread"},
		{"do 0 ", "command"}, {"do 7 ", "command"}, {"do 0  ", "command"}, {"do 0  shut", "command"}, {"do 0 shut ", "command"}, {"do 0 x", "command"}, {"do 0 advance 0", "command"}, {"do 0 advance 0 5 ", "command"}, {"do 0 advance  0 5", "command"},
		{"do 0 advance 0 05", "command"}, {"do 0 advance 64 5", "command"}, {"do 0 advance -1 5", "command"}, {"do 0 open", "command"}, {"do 0 open 64", "command"}, {"do 0 open 0 0", "command"}, {"do 0 update", "command"}, {"do 0 update 0/5", "command"},
		{"do 0 update 0/5/1000001", "command"}, {"do 0 update 64/5/1", "command"}, {"do 0 put", "command"}, {"do 0 sweep", "command"}, {"do 0 SHUT", "command"}, {"do 0 shut\n", "command"}, {"do 0 done 0", "command"}, {"do 0 begin", "command"}, {"do 0 do 0 shut", "command"},
		{"do 0 update " + strings.Repeat("0/5/1,", 16) + "0/5/1", "command"},
	} {
		talk(t, s, c.line, c.reply)
	}
	talk(t, s, "begin", "ok", "left", "0 0 0 0 0 0 0 0")
	oks(t, s, "do 0 update "+strings.Repeat("0/5/1,", 15)+"0/5/1", "do 7 shut", "begin")
	talk(t, s, "left", "1 0 0 0 0 0 0 1")
}

// P20.1: programs are of all threads that there may be, whatever the plan has: those beyond are left till it has more.
func TestProgramsBeyond(t *testing.T) {
	s := shell.New()
	for who := range 8 {
		for range who {
			oks(t, s, fmt.Sprintf("do %d done 0 4", who))
		}
	}
	for _, c := range [][2]string{{"1", "0"}, {"8", "0 1 2 3 4 5 6 7"}, {"3", "0 1 2"}, {"8", "0 1 2 3 4 5 6 7"}} {
		talk(t, s, "threads "+c[0], "ok", "begin", "ok", "left", c[1])
	}
}

// P20.1: what is said behind a begin is for the next one: the tower that was begun stays as it was.
func TestBegunStays(t *testing.T) {
	lines := []string{"graph 2 0/1/1 0,1", "threads 2", "ring 2", "do 0 advance 0 5", "do 0 update 1/8/2", "do 1 advance 0 9", "do 1 wait 1 6", "begin"}
	s, quiet := told(t, lines...), told(t, lines...)
	oks(t, s, "graph 4 0/3/1 3,2", "threads 8", "ring 64", "shards 8", "tries 8", "do 0 shut", "do 1 shut", "do 7 shut")
	talk(t, s, "left", "2 2")
	d := dice(5)
	for range 400 {
		line := fmt.Sprint("pick ", d.roll(3))
		if a, b := s.Do(line), quiet.Do(line); a != b || seen(s) != seen(quiet) {
			t.Fatalf("%q: %q, %q\n%s\n%s", line, a, b, seen(s), seen(quiet))
		}
	}
	talk(t, s, "run 1000000", quiet.Do("run 1000000"), "left", "0 0+", "fronts", "5 6", "held 0", "0/0/5 1/8/2", "check", "ok", "open", "none")
	talk(t, s, "begin", "ok", "left", "3 3 0 0 0 0 0 1", "fronts", "0 0 0 0", "entries", "0 0", "held 0", "0/3/0 none", "held 1", "1/2/0 none")
}

// P20.1, P5: a begin that is refused leaves the tower that was, wherever it is; one that isn't begins anew, of the same
// programs.
func TestBegin(t *testing.T) {
	s := told(t, "threads 2", "do 0 advance 0 5", "do 0 advance 0 7", "do 1 wait 0 6", "do 1 wait 0 7")
	talk(t, s, "ring 3", "ok", "begin", "ring 3: argument", "left", "no tower", "begin", "ring 3: argument", "fronts", "no tower", "ring 1", "ok", "begin", "ok", "left", "2 2")
	first := seen(s)
	for _, rounds := range []string{"run 0", "run 1", "run 5", "run 1000000"} {
		s.Do(rounds)
		before := seen(s)
		for _, line := range []string{"threads 9", "threads 0", "ring 5", "shards 0", "tries 9"} {
			word, number, _ := strings.Cut(line, " ")
			talk(t, s, line, "ok", "begin", word+" "+number+": argument")
			if seen(s) != before {
				t.Fatalf("behind %q:\n%s\nit was\n%s", line, seen(s), before)
			}
			oks(t, s, word+map[bool]string{true: " 2", false: " 1"}[word == "threads"])
		}
		if seen(s) != before {
			t.Fatalf("it was\n%s\nand is\n%s", before, seen(s))
		}
	}
	talk(t, s, "left", "0 0+", "fronts", "7")
	oks(t, s, "begin")
	if seen(s) != first {
		t.Errorf("begun anew:\n%s\nit was\n%s", seen(s), first)
	}
	rests(t, s)
	talk(t, s, "left", "0 0+", "fronts", "7", "do 0 advance 0 8", "ok", "left", "0 0+", "begin", "ok", "left", "3 2")
	rests(t, s)
	talk(t, s, "left", "0 0", "fronts", "8")
}

// P20.1: a pick is whose layer 10 says, and tells whether he went on.
func TestPick(t *testing.T) {
	s := told(t, "threads 2", "do 1 fronts", "begin")
	talk(t, s, "pick 0", "no", "left", "0 1", "pick 1", "yes", "left", "0 0", "entries", "1 1", "pick 0", "no", "pick 3", "no", "pick 999999", "no")
	if till(t, s, 1) == 0 {
		t.Error("Fronts took one access")
	}
	talk(t, s, "entries", "1 0", "pick 1", "no", "pick 4", "no", "pick 2", "yes", "pick 5", "yes", "pick 999998", "yes", "pick 1000000", "no", "entries", "2 1")
	till(t, s, 2)
	talk(t, s, "entries", "5 0", "pick 2", "no", "run 0", "0")
	// One who sleeps doesn't go on.
	s = told(t, "do 0 wait 0 4", "begin")
	many := till(t, s, 0)
	talk(t, s, "left", "0+", "pick 0", "no", "entries", "1 1")
	if many < 2 {
		t.Errorf("it sleeps after %d", many)
	}
}

// P20.1: run is as many rounds at most, and tells after how many nobody has anything to do.
func TestRun(t *testing.T) {
	lines := []string{"threads 2", "do 0 advance 0 5", "do 1 done 0 4", "begin"}
	n, e := strconv.Atoi(told(t, lines...).Do("run 1000000"))
	if e != nil || n < 5 {
		t.Fatalf("%d rounds, %v", n, e)
	}
	for rounds := range n + 3 {
		s, turns := told(t, lines...), told(t, lines...)
		want := "-1"
		if rounds >= n {
			want = strconv.Itoa(n)
		}
		talk(t, s, fmt.Sprint("run ", rounds), want)
		for k := range min(rounds, n) * 3 {
			turns.Do(fmt.Sprint("pick ", k))
		}
		if seen(s) != seen(turns) {
			t.Fatalf("%d rounds:\n%s\nby picks:\n%s", rounds, seen(s), seen(turns))
		}
		rest := strconv.Itoa(max(0, n-rounds))
		talk(t, s, "run 1000000", rest, "run 1000000", "0", "run 0", "0", "fronts", "5")
	}
}

// P20.1: fronts are told in the order of the Marks, not of the begins; what took no effect yet counts for nothing.
func TestFronts(t *testing.T) {
	// The Put begins ahead of the Sweep, and takes effect behind it.
	s := told(t, "do 0 advance 0 5", "begin")
	talk(t, s, "pick 0", "yes", "pick 0", "yes", "entries", "2 2")
	till(t, s, 1)
	talk(t, s, "entries", "5 2", "fronts", "0")
	till(t, s, 0)
	talk(t, s, "entries", "5 0", "fronts", "0", "open", "0/0/-1,0/5/1")
	// It is shown with one access of the next Sweep: the Show began ahead of that, and isn't over yet.
	var shown, under []string
	for s.Do("pick 1") == "yes" {
		shown, under = append(shown, s.Do("fronts")), append(under, s.Do("entries"))
	}
	first := slices.Index(shown, "5")
	if first < 1 || slices.Contains(shown[:first], "5") || slices.Contains(shown[first:], "0") || under[first-1] != under[first] || !strings.HasSuffix(under[first], " 1") {
		t.Errorf("shown %q, entries %q", shown, under)
	}
	// An Open that has a latch alone isn't done yet: ahead of all it would hold 0.
	s = told(t, "do 0 advance 0 5", "do 0 open 0", "begin")
	for s.Do("left") != "0" {
		talk(t, s, "pick 0", "yes")
	}
	till(t, s, 1)
	talk(t, s, "held 0", "0/0/5 none", "fronts", "5", "left", "0")
}

// P20.1: a port to which nothing may come any more is told with never, one whose time is the last one in digits.
func TestFrontsOfTheEnd(t *testing.T) {
	s := told(t, "graph 3 0/1/1 0,2", "do 0 advance 0 18446744073709551614", "do 0 close 1", "begin")
	rests(t, s)
	talk(t, s, "fronts", "18446744073709551614 never never", "held 0", "0/0/18446744073709551614 none")
	s = told(t, "graph 2 0/1/1 0", "do 0 close 0", "begin")
	rests(t, s)
	talk(t, s, "fronts", "never never", "held 0", "none none", "open", "none")
}

// P20.1: left tells of each thread how many commands it hasn't begun, and whether it sleeps.
func TestLeft(t *testing.T) {
	s := told(t, "threads 3", "do 0 wait 0 4", "do 0 fronts", "do 0 fronts", "do 2 wait 0 5", "begin")
	talk(t, s, "left", "3 0 1")
	till(t, s, 0)
	talk(t, s, "left", "2+ 0 1")
	till(t, s, 2)
	talk(t, s, "left", "2+ 0 0+")
	// Whoever goes round wakes all; the time hasn't gone by, so they sleep again.
	till(t, s, 3)
	talk(t, s, "left", "2 0 0")
	rests(t, s)
	talk(t, s, "left", "2+ 0 0+", "fronts", "0")
	s = told(t, "threads 2", "do 0 wait 0 4", "do 0 fronts", "do 1 shut", "begin")
	till(t, s, 0)
	talk(t, s, "left", "1+ 1")
	rests(t, s)
	talk(t, s, "left", "0 0")
}

// P20.1: held tells of one thread: of handles their Ids, of stamps their count, and of both where there are none.
func TestHeld(t *testing.T) {
	s := told(t, "graph 3 0/1/1,1/2/2 0,2", "threads 3", "do 0 open 0", "do 0 advance 0 5", "do 0 update 2/9/1000000,1/7/1,1/6/2", "do 0 advance 1 8", "do 1 update 2/3/4", "do 1 close 0", "begin")
	talk(t, s, "held 0", "0/0/0 none", "held 1", "1/2/0 none", "held 2", "none none")
	rests(t, s)
	talk(t, s, "held 0", "0/0/5,2/0/8 1/6/2,1/7/1,2/9/1000000", "held 1", "none 2/3/4", "held 2", "none none", "held 3", "none none", "held 8", "none none", "held 1000000", "none none", "fronts", "5 6 3")
	// An Id that comes again has another Gen.
	s = told(t, "do 0 open 0", "do 0 close 1", "do 0 open 0", "do 0 close 0", "begin")
	rests(t, s)
	talk(t, s, "held 0", "65/0/0 none")
	l := make([]string, 64)
	s = shell.New()
	for i := range l {
		oks(t, s, "do 0 open 0")
		l[i] = fmt.Sprintf("%d/0/0", i)
	}
	oks(t, s, "begin")
	rests(t, s)
	talk(t, s, "held 0", strings.Join(l, ",")+" none")
}

// P20.1: open is what isn't folded of what is held, rising.
func TestOpen(t *testing.T) {
	s := told(t, "graph 2 0/1/1 0,1", "threads 2", "do 0 update 1/4/3,1/3/1000000", "do 0 update 1/3/-999999", "do 1 advance 0 9", "begin")
	talk(t, s, "open", "none", "pick 0", "yes", "open", "1/3/1000000,1/4/3", "pick 1", "yes", "open", "1/0/-1,1/3/1000000,1/4/3,1/9/1")
	till(t, s, 0)
	till(t, s, 1)
	talk(t, s, "open", "1/0/-1,1/3/1,1/4/3,1/9/1", "left", "0 0", "fronts", "0 0")
	rests(t, s)
	talk(t, s, "open", "none", "fronts", "0 1")
	s = told(t, "do 0 update 0/18446744073709551614/1,0/9223372036854775808/2", "begin")
	talk(t, s, "pick 0", "yes", "open", "0/9223372036854775808/2,0/18446744073709551614/1", "held 0", "0/0/0 0/9223372036854775808/2,0/18446744073709551614/1")
}

// P20.1: entries tells how many there are, and how many aren't over.
func TestEntries(t *testing.T) {
	s := told(t, "threads 3", "do 0 fronts", "do 1 fronts", "do 2 shut", "begin")
	talk(t, s, "entries", "0 0", "pick 0", "yes", "entries", "1 1", "pick 1", "yes", "entries", "2 2", "pick 2", "yes", "entries", "3 3")
	till(t, s, 0)
	talk(t, s, "entries", "3 2")
	till(t, s, 1)
	talk(t, s, "entries", "3 1")
	rests(t, s)
	// Of one Sweep a Drain, a Pop of each ring, and a Show.
	talk(t, s, "entries", "8 0")
	s = told(t, "do 0 wait 0 4", "begin")
	rests(t, s)
	talk(t, s, "entries", "4 1", "left", "0+")
}
