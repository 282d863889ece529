package shell

import (
	"cmp"
	"slices"
	"strconv"
	"strings"

	"marchland/audit"
	"marchland/batch"
	"marchland/claim"
	"marchland/hist"
	"marchland/model"
	"marchland/stamp"
	"marchland/tower"
)

// begun is a tower, and its plan: the Shell's may be another one by now.
type begun struct {
	*tower.Tower
	plan model.Plan
}

func (b *begun) tell(word string) string {
	log := b.Track().Log()
	switch word {
	case "fronts":
		return join(" ", b.shown(log), stamp.Text)
	case "left":
		return b.left()
	case "open":
		return list(audit.Open(b.plan, log), changeText)
	case "entries":
		return entries(log)
	}
	return b.check(log)
}

func (b *begun) tellOf(word string, n int) string {
	switch word {
	case "pick":
		if b.Pick(n) {
			return "yes"
		}
		return "no"
	case "run":
		return strconv.Itoa(b.Rest(n))
	}
	return b.held(n)
}

// shown is what a Model shows that did what took effect.
func (b *begun) shown(log []hist.Entry) []uint64 {
	slices.SortFunc(log, func(x, y hist.Entry) int { return cmp.Compare(x.Mark, y.Mark) })
	// Of the plan there is a Model, since there is a tower.
	m, _ := model.New(b.plan)
	for _, x := range log {
		if x.Mark != 0 {
			m.Do(x.Op)
		}
	}
	return m.Shown()
}

func (b *begun) left() string {
	texts := make([]string, b.plan.Threads)
	for who := range texts {
		texts[who] = strconv.Itoa(b.Left(who))
		if b.Waits(who) {
			texts[who] += "+"
		}
	}
	return strings.Join(texts, " ")
}

func (b *begun) held(who int) string {
	own := b.Track().Own(who)
	return list(own.Hands, handText) + " " + list(own.Held, changeText)
}

func (b *begun) check(log []hist.Entry) string {
	wrong := audit.Check(b.plan, log, b.Track().Mem().Log())
	if wrong == "" {
		return ok
	}
	return wrong
}

func entries(log []hist.Entry) string {
	under := 0
	for _, x := range log {
		if x.End == 0 {
			under++
		}
	}
	return strconv.Itoa(len(log)) + " " + strconv.Itoa(under)
}

func handText(h claim.Hand) string {
	return strconv.Itoa(h.Id) + "/" + strconv.Itoa(h.Port) + "/" + stamp.Text(h.Time)
}

func changeText(c batch.Change) string {
	return strconv.Itoa(c.Port) + "/" + stamp.Text(c.Time) + "/" + strconv.FormatInt(c.Diff, 10)
}

func join[T any](between string, l []T, text func(T) string) string {
	texts := make([]string, len(l))
	for i, x := range l {
		texts[i] = text(x)
	}
	return strings.Join(texts, between)
}

// list: that there is nothing has a word of its own.
func list[T any](l []T, text func(T) string) string {
	if len(l) == 0 {
		return none
	}
	return join(",", l, text)
}
