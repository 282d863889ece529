package shell_test

import (
	"fmt"
	"slices"
	"strconv"
	"strings"
	"testing"

	"marchland/batch"
	"marchland/front"
	"marchland/graph"
	"marchland/script"
	"marchland/shell"
	"marchland/stamp"
)

// What follows goes by replies alone.

// times are those of fronts.
func times(t *testing.T, s *shell.Shell) []uint64 {
	t.Helper()
	var l []uint64
	for _, text := range strings.Split(s.Do("fronts"), " ") {
		time, e := stamp.Parse(text)
		if e != 0 {
			t.Fatalf("fronts: %q", text)
		}
		l = append(l, time)
	}
	return l
}

// counts are Changes of a reply, or handles as one Change each; held of one thread both.
func counts(t *testing.T, text string, handles bool) []batch.Change {
	t.Helper()
	var l []batch.Change
	if text == "none" {
		return nil
	}
	for _, part := range strings.Split(text, ",") {
		n := strings.Split(part, "/")
		if len(n) != 3 {
			t.Fatalf("%q", text)
		}
		if handles {
			n = []string{n[1], n[2], "1"}
		}
		port, e := strconv.Atoi(n[0])
		time, _ := stamp.Parse(n[1])
		diff, d := strconv.ParseInt(n[2], 10, 64)
		if e != nil || d != nil || stamp.Text(time) != n[1] {
			t.Fatalf("%q", text)
		}
		l = append(l, batch.Change{Port: port, Time: time, Diff: diff})
	}
	return l
}

func held(t *testing.T, s *shell.Shell, threads int) batch.Batch {
	t.Helper()
	var all batch.Batch
	for who := range threads {
		l := strings.Split(s.Do(fmt.Sprint("held ", who)), " ")
		if len(l) != 2 {
			t.Fatalf("held: %q", l)
		}
		for _, c := range append(counts(t, l[0], true), counts(t, l[1], false)...) {
			all, _ = batch.Merge(all, batch.Batch{c})
		}
	}
	return all
}

// above: is there a time of one list above the other list's in its place?
func above(a, b []uint64) bool {
	for i := range a {
		if a[i] > b[i] {
			return true
		}
	}
	return false
}

// P3, P20.3: no front of what is held ever goes back, none that is shown either; what is shown is never above these.
func TestFrontsNeverGoBack(t *testing.T) {
	for seed := range 80 {
		d := dice(500 + seed)
		g := pick(&d, graphs[:8])
		read, _ := script.ParseGraph(g)
		paths, threads := graph.Paths(read), 1+d.roll(3)
		s := told(t, "graph "+g, fmt.Sprint("threads ", threads), fmt.Sprint("ring ", 1<<d.roll(2)), fmt.Sprint("shards ", 1+d.roll(2)))
		for range 20 {
			oks(t, s, fmt.Sprintf("do %d %s", d.roll(threads), command(&d, read.Ports)))
		}
		oks(t, s, "begin")
		shown, soonest := times(t, s), front.Of(paths, held(t, s, threads))
		for range 300 {
			s.Do(fmt.Sprint("pick ", d.roll(threads+1)))
			nowShown, nowSoonest := times(t, s), front.Of(paths, held(t, s, threads))
			if above(shown, nowShown) || above(soonest, nowSoonest) || above(nowShown, nowSoonest) {
				t.Fatalf("%s: shown %v, then %v; of what is held %v, then %v\n%s", g, shown, nowShown, soonest, nowSoonest, seen(s))
			}
			shown, soonest = nowShown, nowSoonest
		}
	}
}

// P4, P20.1: at rest all that is held is folded and shown; each thread is through, or sleeps; nobody goes on any more.
func TestAtRest(t *testing.T) {
	asleep := 0
	for seed := range 150 {
		d := dice(2000 + seed)
		g := pick(&d, graphs[:8])
		read, _ := script.ParseGraph(g)
		threads := 1 + d.roll(4)
		s := told(t, "graph "+g, fmt.Sprint("threads ", threads), fmt.Sprint("ring ", 1<<d.roll(3)))
		for range 20 {
			oks(t, s, fmt.Sprintf("do %d %s", d.roll(threads), command(&d, read.Ports)))
		}
		oks(t, s, "begin")
		for range d.roll(400) {
			s.Do(fmt.Sprint("pick ", d.roll(threads+1)))
		}
		rests(t, s)
		talk(t, s, "open", "none", "check", "ok")
		if want, got := front.Of(graph.Paths(read), held(t, s, threads)), times(t, s); !slices.Equal(got, want) {
			t.Fatalf("%s: shown %v, want %v", g, got, want)
		}
		under := 0
		for _, text := range strings.Split(s.Do("left"), " ") {
			if strings.HasSuffix(text, "+") {
				under++
			} else if text != "0" {
				t.Fatalf("left at rest: %q", s.Do("left"))
			}
		}
		if l := strings.Fields(s.Do("entries")); l[1] != strconv.Itoa(under) {
			t.Fatalf("%d sleep, entries %q", under, l)
		}
		before := seen(s)
		for k := range threads + 1 {
			talk(t, s, fmt.Sprint("pick ", k), "no")
		}
		if seen(s) != before {
			t.Fatalf("at rest:\n%s\nthen\n%s", before, seen(s))
		}
		asleep += under
	}
	if asleep < 20 {
		t.Errorf("%d slept in all", asleep)
	}
}

// P4: when it is shut nobody sleeps, whenever that is.
func TestShutWakes(t *testing.T) {
	for picks := range 120 {
		s := told(t, "threads 3", "do 0 wait 0 4", "do 0 fronts", "do 1 wait 0 never", "do 1 wait 0 9", "do 2 shut", "begin")
		for k := range picks {
			s.Do(fmt.Sprint("pick ", k*k%7))
		}
		rests(t, s)
		talk(t, s, "left", "0 0 0", "check", "ok")
	}
}

// P5: what threads are answered, and hold, hangs on neither how small rings are, nor how many shards there are.
func TestRoomChangesNothing(t *testing.T) {
	for seed := range 12 {
		want := ""
		for _, room := range [][3]int{{1, 1, 1}, {2, 1, 1}, {64, 1, 1}, {1, 8, 1}, {1, 3, 8}, {4, 2, 3}} {
			// Of one thread no turns change what it is answered; of several, if they open and close nothing, nor ask.
			d := dice(seed)
			s, threads := shell.New(), 1+seed%3
			oks(t, s, "graph 3 0/1/2,1/2/0 0,1,2", fmt.Sprint("threads ", threads), fmt.Sprint("ring ", room[0]), fmt.Sprint("shards ", room[1]), fmt.Sprint("tries ", room[2]))
			for range 25 {
				c := command(&d, 3)
				if threads > 1 && !strings.HasPrefix(c, "advance") && !strings.HasPrefix(c, "update") {
					continue
				}
				oks(t, s, fmt.Sprintf("do %d %s", d.roll(threads), c))
			}
			oks(t, s, "begin")
			turns := dice(room[0] * 10)
			for range turns.roll(300) {
				s.Do(fmt.Sprint("pick ", turns.roll(threads+1)))
			}
			rests(t, s)
			got := s.Do("fronts") + "; " + s.Do("left")
			for who := range threads {
				got += "; " + s.Do(fmt.Sprint("held ", who))
			}
			if want == "" {
				want = got
			}
			if got != want {
				t.Errorf("seed %d, room %v: %s, want %s", seed, room, got, want)
			}
		}
	}
}
