package script

import (
	"slices"
	"strconv"
	"strings"

	"marchland/api"
	"marchland/batch"
	"marchland/graph"
	"marchland/model"
	"marchland/stamp"
	"marchland/tower"
)

const (
	// places is how many numbers there are, from 0 on, of handles and of ports in a line.
	places = 64
	// far is by how much a Change in a line changes at most.
	far = 1000000
	// none stands where there are no edges.
	none = "-"
)

// words are those of the Kinds 0 to 7, in order.
var words = [8]string{"open", "advance", "close", "update", "fronts", "done", "wait", "shut"}

func wordOf(kind int) string {
	if kind < model.Open || kind > model.Shut {
		return ""
	}
	return words[kind]
}

// join: a text a part of which there isn't, isn't either.
func join(between string, parts ...string) string {
	if slices.Contains(parts, "") {
		return ""
	}
	return strings.Join(parts, between)
}

func place(n int) string {
	if n < 0 || n >= places {
		return ""
	}
	return strconv.Itoa(n)
}

func changes(l []batch.Change) string {
	if len(l) > api.MaxList {
		return ""
	}
	parts := make([]string, len(l))
	for i, x := range l {
		parts[i] = join("/", place(x.Port), stamp.Text(x.Time), diff(x.Diff))
	}
	return join(",", parts...)
}

func diff(n int64) string {
	if n < -far || n > far {
		return ""
	}
	return strconv.FormatInt(n, 10)
}

func edgesText(l []graph.Edge) string {
	if len(l) == 0 {
		return none
	}
	parts := make([]string, len(l))
	for i, x := range l {
		parts[i] = join("/", strconv.Itoa(x.From), strconv.Itoa(x.To), stamp.Text(x.Add))
	}
	return join(",", parts...)
}

func inputsText(l []int) string {
	parts := make([]string, len(l))
	for i, port := range l {
		parts[i] = strconv.Itoa(port)
	}
	return join(",", parts...)
}

// guessCmd, and guessGraph, make something of any text: of one that is none's they needn't see that, since what comes of
// it has another text. They take no more of a list than that it is too long.
func guessCmd(s string) tower.Cmd {
	word, rest, _ := strings.Cut(s, " ")
	first, second, _ := strings.Cut(rest, " ")
	c := tower.Cmd{Kind: guessKind(word)}
	switch c.Kind {
	case model.Open, model.Close:
		c.Hand = guessNumber(rest)
	case model.Advance:
		c.Hand, c.Time = guessNumber(first), guessTime(second)
	case model.Update:
		for _, part := range strings.SplitN(rest, ",", api.MaxList+1) {
			a, b, n := three(part)
			c.L = append(c.L, batch.Change{Port: guessNumber(a), Time: guessTime(b), Diff: int64(guessNumber(n))})
		}
	case model.Done, model.Wait:
		c.Port, c.Time = guessNumber(first), guessTime(second)
	}
	return c
}

func guessGraph(s string) graph.Graph {
	first, rest, _ := strings.Cut(s, " ")
	second, third, _ := strings.Cut(rest, " ")
	g := graph.Graph{Ports: guessNumber(first)}
	if second != none {
		for _, part := range strings.SplitN(second, ",", api.MaxEdges+1) {
			a, b, n := three(part)
			g.Edges = append(g.Edges, graph.Edge{From: guessNumber(a), To: guessNumber(b), Add: guessTime(n)})
		}
	}
	for _, part := range strings.SplitN(third, ",", api.MaxInputs+1) {
		g.Inputs = append(g.Inputs, guessNumber(part))
	}
	return g
}

// guessKind: -1, if no Kind has that word.
func guessKind(word string) int {
	for kind, w := range words {
		if w == word {
			return kind
		}
	}
	return -1
}

func guessNumber(s string) int {
	n, _ := strconv.Atoi(s)
	return n
}

func guessTime(s string) uint64 {
	t, _ := stamp.Parse(s)
	return t
}

// three: what stands between slashes.
func three(s string) (a, b, c string) {
	a, rest, _ := strings.Cut(s, "/")
	b, c, _ = strings.Cut(rest, "/")
	return a, b, c
}
