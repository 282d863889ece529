package shell_test

import (
	"fmt"
	"slices"
	"strings"
	"testing"

	"marchland/shell"
)

// P20.1, P1: of a nil one each line is none; one that New didn't make has its answers, too.
func TestNil(t *testing.T) {
	var s *shell.Shell
	l := append(looks(), "", "begin", "graph 1 - 0", "threads 1", "do 0 shut", "do 9 shut", "pick 0", "run 0", "x", " ")
	for _, line := range l {
		talk(t, s, line, "what")
	}
	var zero shell.Shell
	for range 2 {
		for _, line := range l {
			if zero.Do(line) == "" {
				t.Errorf("%q: nothing", line)
			}
		}
	}
}

// P20.1, P20.2: Lines are the replies of a new one, each time; the lines stay as they are.
func TestLines(t *testing.T) {
	if l := shell.Lines(nil); len(l) != 0 {
		t.Errorf("of none: %q", l)
	}
	if l := shell.Lines([]string{}); len(l) != 0 {
		t.Errorf("of none: %q", l)
	}
	d := dice(77)
	for range 40 {
		var l []string
		for range d.roll(60) {
			l = append(l, line(&d))
		}
		s, given := shell.New(), slices.Clone(l)
		var want []string
		for _, line := range l {
			want = append(want, s.Do(line))
		}
		first := shell.Lines(l)
		for i := range first {
			first[i] += "!"
		}
		again := shell.Lines(l)
		if !slices.Equal(again, want) || !slices.Equal(l, given) {
			t.Fatalf("of %q: %q, want %q", given, again, want)
		}
	}
}

// P20.1, P7: whatever lines there are, one replies as a plain one does, which has a tower, a Log and a Model of its own.
func TestAsPlain(t *testing.T) {
	for seed := range 60 {
		d, x := dice(seed), newPair(t)
		for range 400 {
			l := line(&d)
			if d.roll(8) == 0 {
				l = slip(&d, l)
			}
			x.do(l)
		}
		x.looks()
	}
}

// P20.1, P7: likewise of lines that come as they mostly do: a plan, programs, a begin, and then picks with looks between.
func TestAsPlainInOrder(t *testing.T) {
	for seed := range 120 {
		d, x := dice(1000+seed), newPair(t)
		threads := 1 + d.roll(3)
		x.do("graph " + pick(&d, graphs))
		for _, word := range []string{"ring", "shards", "tries"} {
			x.do(fmt.Sprint(word, " ", 1<<d.roll(3)))
		}
		x.do(fmt.Sprint("threads ", threads))
		for range 3 + d.roll(15) {
			x.do(fmt.Sprintf("do %d %s", d.roll(threads), command(&d, 3)))
		}
		x.do("begin")
		for range d.roll(300) {
			x.do(fmt.Sprint("pick ", d.roll(threads+1)))
			if d.roll(10) == 0 {
				x.looks()
			}
		}
		x.do("run 3")
		x.looks()
		x.do("run 1000000")
		x.looks()
	}
}

// P20.1: all lines of one word to four of a few, some of them empty; the lines that are done go on with one and the same.
func TestAllShortLines(t *testing.T) {
	words := []string{"", "graph", "do", "begin", "pick", "run", "held", "fronts", "threads", "ring", "0", "2", "9", "01", "-", "shut"}
	x := newPair(t)
	for _, a := range words {
		x.do(a)
		for _, b := range words {
			x.do(a + " " + b)
			for _, c := range words {
				x.do(a + " " + b + " " + c)
				if a != "graph" && a != "do" && b != "" {
					continue
				}
				for _, d := range words {
					x.do(a + " " + b + " " + c + " " + d)
				}
			}
		}
	}
	x.looks()
}

// P1, P20.1: any bytes are a line.
func TestAnyBytes(t *testing.T) {
	d, x := dice(9), newPair(t)
	x.do("do 0 wait 0 4")
	x.do("begin")
	for n := range 256 {
		x.do(string([]byte{byte(n)}))
		x.do("pick " + string([]byte{byte(n)}))
		x.do("graph 1 - " + string([]byte{byte(n)}))
		x.do("do 0 shut" + string([]byte{byte(n)}))
		x.do("begin" + string([]byte{byte(n)}))
		x.do("do" + string([]byte{byte(n)}) + "0 shut")
	}
	for range 3000 {
		b := make([]byte, d.roll(12))
		for i := range b {
			b[i] = byte(d.roll(256))
		}
		x.do(string(b))
	}
	for _, word := range []string{"graph ", "do ", "do 0 ", "do 0 update ", "pick ", "x ", "", "graph 1 - 0"} {
		for _, more := range []string{" ", "0", "0,", "0/", "\x00", "a b "} {
			x.do(word + strings.Repeat(more, 20000))
		}
	}
	x.looks()
}

// P20.2: one hangs on its own lines alone, whatever others are told meanwhile, and which of them was told ahead.
func TestAlone(t *testing.T) {
	const many = 5
	var lines [many][]string
	var want [many][]string
	for i := range many {
		d := dice(300 + i/2)
		for range 300 {
			lines[i] = append(lines[i], line(&d))
		}
		want[i] = shell.Lines(lines[i])
	}
	var at [many]int
	shells := make([]*shell.Shell, many)
	for i := range shells {
		shells[i] = shell.New()
	}
	d := dice(4)
	for slices.Min(at[:]) < 300 {
		i := d.roll(many)
		if at[i] == 300 {
			continue
		}
		talk(t, shells[i], lines[i][at[i]], want[i][at[i]])
		at[i]++
	}
}

// P20.2: lines that tell change nothing, however often they come.
func TestLooksChangeNothing(t *testing.T) {
	for seed := range 10 {
		a, threads, _ := gather(t, new(dice(seed)), 3)
		b, _, _ := gather(t, new(dice(seed)), 3)
		d := dice(seed)
		for range 200 {
			l := fmt.Sprint("pick ", d.roll(threads+1))
			for range d.roll(3) {
				a.Do(pick(&d, looks()))
			}
			talk(t, a, l, b.Do(l))
		}
		if seen(a) != seen(b) {
			t.Fatalf("seed %d:\n%s\nwithout looks:\n%s", seed, seen(a), seen(b))
		}
	}
}

// P20.3, P2, P3, P6: whatever is picked, and whenever it is asked: check is ok.
func TestCheckIsOk(t *testing.T) {
	for seed := range 250 {
		d := dice(7000 + seed)
		s, threads, _ := gather(t, &d, 4)
		talk(t, s, "check", "ok")
		for range 8 {
			// Whoever is picked is so for a while, in turn, or now and then.
			who, kind := d.roll(threads+1), d.roll(3)
			for i := range d.roll(60) {
				switch kind {
				case 1:
					who = i
				case 2:
					who = d.roll(threads + 1)
				}
				s.Do(fmt.Sprint("pick ", who))
			}
			talk(t, s, "check", "ok")
		}
		s.Do(fmt.Sprint("run ", d.roll(20)))
		talk(t, s, "check", "ok")
		rests(t, s)
		talk(t, s, "check", "ok")
	}
}

// P20.3: likewise behind lines of whatever kind, with towers begun anew.
func TestCheckIsOkOfAnyLines(t *testing.T) {
	for seed := range 40 {
		d, s, any := dice(8000+seed), shell.New(), false
		for range 300 {
			l := line(&d)
			if d.roll(10) == 0 {
				l = slip(&d, l)
			}
			any = s.Do(l) == "ok" && l == "begin" || any
			if any {
				talk(t, s, "check", "ok")
			} else {
				talk(t, s, "check", "no tower")
			}
		}
	}
}

// P20.3, P4: of as much as there may be.
func TestCheckIsOkOfMuch(t *testing.T) {
	d := dice(31)
	s := told(t, "graph "+graphs[len(graphs)-1], "threads 8", "ring 64", "shards 8", "tries 8")
	for who := range 8 {
		for range 30 {
			oks(t, s, fmt.Sprintf("do %d %s", who, command(&d, 64)))
		}
	}
	oks(t, s, "begin")
	for range 3000 {
		s.Do(fmt.Sprint("pick ", d.roll(9)))
	}
	talk(t, s, "check", "ok")
	rests(t, s)
	talk(t, s, "check", "ok", "open", "none")
}

// P20.3: a program of thousands of commands.
func TestCheckIsOkOfLongPrograms(t *testing.T) {
	s := told(t, "threads 2", "graph 2 0/1/1 0,1")
	for time := 1; time <= 1500; time++ {
		oks(t, s, fmt.Sprintf("do 0 advance 0 %d", time), fmt.Sprintf("do 1 advance 0 %d", 2*time), fmt.Sprintf("do %d wait 0 %d", time%2, time-1))
	}
	oks(t, s, "begin")
	rests(t, s)
	talk(t, s, "left", "0 0", "fronts", "1500 1501", "held 1", "1/1/3000 none", "check", "ok", "open", "none")
}

// P20.1, P7: check tells audit's word, where there is one: a Log of more Entries than layer 15 takes isn't Right.
func TestCheckTellsTheWord(t *testing.T) {
	s := shell.New()
	// Of one Sweep there are three more.
	for range 1<<16 - 3 {
		oks(t, s, "do 0 fronts")
	}
	oks(t, s, "begin")
	rests(t, s)
	talk(t, s, "entries", "65536 0", "check", "ok", "do 0 fronts", "ok", "begin", "ok", "check", "ok")
	rests(t, s)
	talk(t, s, "entries", "65537 0", "check", "right", "fronts", "0", "open", "none", "left", "0")
}
