package fault_test

import (
	"errors"
	"fmt"
	"math"
	"slices"
	"strconv"
	"strings"
	"testing"

	"marchland/api"
	"marchland/fault"
)

// around is an error from elsewhere that wraps another one.
type around struct{ err error }

func (a *around) Error() string { return "around" }
func (a *around) Unwrap() error { return a.err }

// list is an error that can't be compared.
type list []int

func (l list) Error() string { return "list" }

// alike says of itself which error it is, for errors.Is alone.
type alike struct{ k api.Errno }

func (a alike) Error() string        { return "alike" }
func (a alike) Is(target error) bool { return target == error(a.k) }

// turned gives itself as an Errno, for errors.As alone.
type turned struct{ k api.Errno }

func (turned) Error() string { return "turned" }
func (u turned) As(target any) bool {
	k, ok := target.(*api.Errno)
	if ok {
		*k = u.k
	}
	return ok
}

// bad panics whatever it is asked.
type bad struct{}

func (bad) Error() string { panic("Error") }
func (bad) Unwrap() error { panic("Unwrap") }
func (bad) Is(error) bool { panic("Is") }
func (bad) As(any) bool   { panic("As") }

// mute is an error of which nobody may ask for its words.
type mute struct{}

func (mute) Error() string { panic("Error") }

func all() []api.Errno {
	var l []api.Errno
	for k := api.OK; k <= api.ErrNone; k++ {
		l = append(l, k)
	}
	return l
}

func words() []string {
	return []string{"ok", "argument", "port", "cycle", "many", "unjustified", "back", "stale", "closed", "full", "over", "state", "form", "word", "none"}
}

// ask holds all that is told of an error against what it should be.
func ask(t *testing.T, name string, e error, kind api.Errno, path []fault.Place, text string) {
	t.Helper()
	if got := fault.Kind(e); got != kind {
		t.Errorf("%s: Kind = %d, want %d", name, got, kind)
	}
	if got := fault.Path(e); !slices.Equal(got, path) {
		t.Errorf("%s: Path = %v, want %v", name, got, path)
	}
	if got := fault.Text(e); got != text {
		t.Errorf("%s: Text = %q, want %q", name, got, text)
	}
}

// P2.1
func TestNil(t *testing.T) {
	if e := fault.At(nil, "edge", 3); e != nil {
		t.Errorf("At(nil) = %v", e)
	}
	if e := fault.At(fault.At(nil, "to", 9), "edge", 3); e != nil {
		t.Errorf("At(At(nil)) = %v", e)
	}
	ask(t, "nil", nil, api.OK, nil, "ok")
	for _, k := range all() {
		if got := fault.Is(nil, k); got != (k == api.OK) {
			t.Errorf("Is(nil, %d) = %v", k, got)
		}
	}
}

// P2.1: a nil pointer of some type is an error, not nil.
func TestNilPointerIsAnError(t *testing.T) {
	var a *around
	e := fault.At(a, "edge", 3)
	if e == nil {
		t.Fatal("At of a nil pointer is nil")
	}
	if got := fault.Path(e); !slices.Equal(got, []fault.Place{{What: "edge", N: 3}}) {
		t.Errorf("Path = %v", got)
	}
	if fault.Is(a, api.OK) || fault.Is(e, api.OK) {
		t.Error("Is OK of a nil pointer")
	}
}

// P2.1
func TestBareErrno(t *testing.T) {
	for i, k := range all() {
		ask(t, words()[i], k, k, nil, words()[i])
		for _, other := range all() {
			want := k == other && other != api.OK
			if got := fault.Is(k, other); got != want {
				t.Errorf("Is(%d, %d) = %v", k, other, got)
			}
		}
	}
	for _, k := range []api.Errno{-1, 15, 99, math.MinInt, math.MaxInt} {
		ask(t, "beyond", k, k, nil, "unknown")
		ask(t, "beyond", fault.At(k, "x", 1), k, []fault.Place{{What: "x", N: 1}}, "x 1: unknown")
		if !fault.Is(k, k) || !fault.Is(fault.At(k, "x", 1), k) || fault.Is(k, api.ErrPort) {
			t.Errorf("Is of %d", k)
		}
	}
}

// P2.1
func TestAtOnePlace(t *testing.T) {
	for i, k := range all() {
		e := fault.At(k, "change", i)
		text := "change " + strconv.Itoa(i) + ": " + words()[i]
		ask(t, text, e, k, []fault.Place{{What: "change", N: i}}, text)
		if e.Error() != text {
			t.Errorf("Error() = %q, want %q", e.Error(), text)
		}
		if errors.Unwrap(e) != error(k) {
			t.Errorf("Unwrap = %v, want %v", errors.Unwrap(e), k)
		}
		for _, other := range all() {
			want := k == other && other != api.OK
			if fault.Is(e, other) != want {
				t.Errorf("Is(%q, %d) = %v", text, other, !want)
			}
			if other != api.OK && errors.Is(e, other) != want {
				t.Errorf("errors.Is(%q, %d) = %v", text, other, !want)
			}
		}
		var found api.Errno = -5
		if !errors.As(e, &found) || found != k {
			t.Errorf("errors.As(%q) = %d", text, found)
		}
	}
}

// P2.1
func TestTextOfPlaces(t *testing.T) {
	for _, c := range []struct {
		what string
		n    int
		want string
	}{
		{"edge", 0, "edge 0: port"},
		{"edge", 10, "edge 10: port"},
		{"edge", -1, "edge -1: port"},
		{"edge", -10, "edge -10: port"},
		{"", 3, " 3: port"},
		{" ", 3, "  3: port"},
		{"two words", 3, "two words 3: port"},
		{"to 9: edge", 3, "to 9: edge 3: port"},
		{"%d%s", 3, "%d%s 3: port"},
		{"\x00\xff\n", 3, "\x00\xff\n 3: port"},
		{"edge", math.MaxInt, "edge 9223372036854775807: port"},
		{"edge", math.MinInt, "edge -9223372036854775808: port"},
	} {
		e := fault.At(api.ErrPort, c.what, c.n)
		ask(t, c.want, e, api.ErrPort, []fault.Place{{What: c.what, N: c.n}}, c.want)
		if e.Error() != c.want {
			t.Errorf("Error() = %q, want %q", e.Error(), c.want)
		}
	}
}

// P2.1: the document's example.
func TestAtSeveralPlaces(t *testing.T) {
	inner := fault.At(api.ErrPort, "to", 9)
	e := fault.At(inner, "edge", 3)
	ask(t, "two", e, api.ErrPort, []fault.Place{{What: "edge", N: 3}, {What: "to", N: 9}}, "edge 3: to 9: port")
	if e.Error() != "edge 3: to 9: port" {
		t.Errorf("Error() = %q", e.Error())
	}
	if errors.Unwrap(e) != inner || !errors.Is(e, inner) {
		t.Error("what was wrapped isn't seen")
	}
	// The inner one is as it was.
	ask(t, "inner", inner, api.ErrPort, []fault.Place{{What: "to", N: 9}}, "to 9: port")
	// One error may be at several places; none knows of the other ones.
	other := fault.At(inner, "edge", 4)
	ask(t, "other", other, api.ErrPort, []fault.Place{{What: "edge", N: 4}, {What: "to", N: 9}}, "edge 4: to 9: port")
	ask(t, "two", e, api.ErrPort, []fault.Place{{What: "edge", N: 3}, {What: "to", N: 9}}, "edge 3: to 9: port")
	same := fault.At(fault.At(api.ErrArg, "input", 1), "input", 1)
	ask(t, "same", same, api.ErrArg, []fault.Place{{What: "input", N: 1}, {What: "input", N: 1}}, "input 1: input 1: argument")
}

// P2.1
func TestForeignErrors(t *testing.T) {
	for _, e := range []error{errors.New("port"), errors.New(""), list{1}, list(nil), mute{}, fmt.Errorf("argument"), &around{errors.New("x")}, errors.Join(errors.New("a"), errors.New("b")), &around{}} {
		ask(t, "foreign", e, api.ErrNone, nil, "none")
		at := fault.At(e, "edge", 3)
		ask(t, "foreign at", at, api.ErrNone, []fault.Place{{What: "edge", N: 3}}, "edge 3: none")
		if at.Error() != "edge 3: none" {
			t.Errorf("Error() = %q", at.Error())
		}
		for _, k := range all() {
			if fault.Is(e, k) || fault.Is(at, k) {
				t.Errorf("Is(%T, %d)", e, k)
			}
		}
	}
	k := api.ErrPort
	ask(t, "pointer", &k, api.ErrNone, nil, "none")
	if fault.Is(&k, api.ErrPort) {
		t.Error("a pointer to an Errno isn't one")
	}
}

// P2.1
func TestAtUnwrapsForeignErrors(t *testing.T) {
	e := errors.New("x")
	if errors.Unwrap(fault.At(e, "x", 1)) != e || !errors.Is(fault.At(fault.At(e, "x", 1), "y", 2), e) {
		t.Error("a foreign error isn't seen")
	}
	var l list
	if !errors.As(fault.At(list{4, 5}, "x", 1), &l) || !slices.Equal(l, list{4, 5}) {
		t.Error("a list isn't seen", l)
	}
}

// P2.1: the kind is seen through wraps of any sort, places only through those of At.
func TestForeignWraps(t *testing.T) {
	to := fault.At(api.ErrPort, "to", 9)
	edge := func(e error) error { return fault.At(e, "edge", 3) }
	onlyEdge := []fault.Place{{What: "edge", N: 3}}
	for _, c := range []struct {
		name string
		e    error
		path []fault.Place
		text string
	}{
		{"around a bare one", &around{api.ErrPort}, nil, "port"},
		{"around a place", &around{to}, nil, "port"},
		{"around two", &around{&around{edge(to)}}, nil, "port"},
		{"%w", fmt.Errorf("more: %w", to), nil, "port"},
		{"joined", errors.Join(errors.New("x"), to), nil, "port"},
		{"joined at the end", errors.Join(errors.New("x"), errors.Join(list{1}, &around{to})), nil, "port"},
		{"place around", edge(&around{api.ErrPort}), onlyEdge, "edge 3: port"},
		{"place around a place", edge(&around{to}), onlyEdge, "edge 3: port"},
		{"place, joined", edge(errors.Join(errors.New("x"), to)), onlyEdge, "edge 3: port"},
		{"two places around a place", fault.At(edge(&around{to}), "graph", 0), []fault.Place{{What: "graph", N: 0}, {What: "edge", N: 3}}, "graph 0: edge 3: port"},
	} {
		ask(t, c.name, c.e, api.ErrPort, c.path, c.text)
		if !fault.Is(c.e, api.ErrPort) || fault.Is(c.e, api.ErrNone) || fault.Is(c.e, api.ErrArg) || fault.Is(c.e, api.OK) {
			t.Errorf("%s: Is", c.name)
		}
	}
}

// P2.1: of several the first one is its Kind, and it is each of them.
func TestJoined(t *testing.T) {
	e := fault.At(errors.Join(errors.New("x"), fault.At(api.ErrBack, "a", 1), api.ErrStale), "b", 2)
	ask(t, "joined", e, api.ErrBack, []fault.Place{{What: "b", N: 2}}, "b 2: back")
	for _, k := range all() {
		if got := fault.Is(e, k); got != (k == api.ErrBack || k == api.ErrStale) {
			t.Errorf("Is(joined, %d) = %v", k, got)
		}
	}
}

// P2.1: errors that answer errors.Is, or errors.As, by themselves.
func TestOwnIsAndAs(t *testing.T) {
	for _, e := range []error{alike{api.ErrFull}, fault.At(alike{api.ErrFull}, "x", 1), &around{alike{api.ErrFull}}} {
		if !fault.Is(e, api.ErrFull) || fault.Is(e, api.ErrOver) || fault.Is(e, api.OK) {
			t.Errorf("Is of %T", e)
		}
		if fault.Kind(e) != api.ErrNone {
			t.Errorf("Kind of %T is %d", e, fault.Kind(e))
		}
	}
	for _, e := range []error{turned{api.ErrFull}, fault.At(turned{api.ErrFull}, "x", 1), &around{turned{api.ErrFull}}} {
		if fault.Kind(e) != api.ErrFull {
			t.Errorf("Kind of %T is %d", e, fault.Kind(e))
		}
		if fault.Is(e, api.ErrFull) {
			t.Errorf("Is of %T", e)
		}
	}
	if got := fault.Text(fault.At(turned{api.ErrFull}, "x", 1)); got != "x 1: full" {
		t.Errorf("Text = %q", got)
	}
	if fault.Is(alike{api.OK}, api.OK) {
		t.Error("Is OK of an error")
	}
}

// P2.2: as deep as the promises hold.
func TestWrappedOftenStaysWhatItIs(t *testing.T) {
	const deep = 1 << 16
	var e error = api.ErrStale
	want := make([]fault.Place, deep)
	var text strings.Builder
	for n := range deep {
		e = fault.At(e, "w", n)
		want[deep-1-n] = fault.Place{What: "w", N: n}
	}
	for _, p := range want {
		text.WriteString("w " + strconv.Itoa(p.N) + ": ")
	}
	ask(t, "deep", e, api.ErrStale, want, text.String()+"stale")
	if e.Error() != text.String()+"stale" {
		t.Error("Error()")
	}
	var k api.Errno
	if !errors.Is(e, api.ErrStale) || !errors.As(e, &k) || k != api.ErrStale || !fault.Is(e, api.ErrStale) || fault.Is(e, api.ErrBack) {
		t.Error("deep", k)
	}
}

// P2.2
func TestWrappedByTurnsStaysWhatItIs(t *testing.T) {
	for _, k := range all() {
		var e error = k
		for n := range 100 {
			switch n % 4 {
			case 0:
				e = fault.At(e, "x", n)
			case 1:
				e = &around{e}
			case 2:
				e = errors.Join(mute{}, e)
			case 3:
				e = fmt.Errorf("%w", &around{fault.At(e, "y", n)})
			}
			if fault.Kind(e) != k || fault.Is(e, k) != (k != api.OK) || !errors.Is(e, k) {
				t.Fatalf("%d at %d: Kind %d", k, n, fault.Kind(e))
			}
		}
	}
}

// P2.3
func TestPathIsNewMemory(t *testing.T) {
	e := fault.At(fault.At(api.ErrPort, "to", 9), "edge", 3)
	want := []fault.Place{{What: "edge", N: 3}, {What: "to", N: 9}}
	l := fault.Path(e)
	other := fault.Path(e)
	l[0], l[1] = fault.Place{What: "gone", N: 7}, fault.Place{}
	_ = append(l[:0:cap(l)], fault.Place{What: "a"}, fault.Place{What: "b"})
	if !slices.Equal(other, want) {
		t.Errorf("two answers share: %v", other)
	}
	if got := fault.Path(e); !slices.Equal(got, want) {
		t.Errorf("Path = %v", got)
	}
	if fault.Text(e) != "edge 3: to 9: port" || e.Error() != "edge 3: to 9: port" {
		t.Errorf("Text = %q", fault.Text(e))
	}
	inner := errors.Unwrap(e)
	inside := fault.Path(inner)
	inside[0].N = 100
	if got := fault.Path(e); !slices.Equal(got, want) {
		t.Errorf("Path = %v", got)
	}
}

// P1: errors that panic are still errors.
func TestNothingPanics(t *testing.T) {
	var none *around
	for _, e := range []error{bad{}, none, &around{bad{}}, &around{none}, errors.Join(bad{}, none), list{}, mute{}, errors.Join(mute{}), fmt.Errorf("%w", &around{bad{}})} {
		for range 3 {
			e = fault.At(e, "x", 1)
			if e == nil {
				t.Fatal("nil")
			}
			if !strings.HasPrefix(fault.Text(e), "x 1: ") || !strings.HasPrefix(e.Error(), "x 1: ") {
				t.Errorf("Text = %q", fault.Text(e))
			}
			if fault.Path(e)[0] != (fault.Place{What: "x", N: 1}) {
				t.Errorf("Path = %v", fault.Path(e))
			}
			fault.Kind(e)
			for _, k := range all() {
				fault.Is(e, k)
			}
			if fault.Is(e, api.OK) {
				t.Error("Is OK of an error")
			}
		}
	}
	for _, e := range []error{bad{}, none} {
		fault.Kind(e)
		fault.Path(e)
		fault.Text(e)
		fault.Is(e, api.ErrPort)
	}
}

// Places compare by ==.
func TestPlacesCompare(t *testing.T) {
	a := fault.Path(fault.At(api.ErrPort, "to", 9))[0]
	b := fault.Path(fault.At(api.ErrArg, "to", 9))[0]
	if a != b || a == (fault.Place{What: "to", N: 8}) || a == (fault.Place{What: "at", N: 9}) {
		t.Error(a, b)
	}
}
