// Package fault is layer 2: errors, and where they are: see shared/doc/02-fault.md.
package fault

import (
	"errors"
	"strconv"
	"strings"

	"marchland/api"
)

// Place is a thing, and which one.
type Place struct {
	What string
	N    int
}

// placed is handed out by its pointer alone, since what it wraps need not be comparable.
type placed struct {
	err   error
	place Place
}

func (p *placed) Error() string { return Text(p) }

func (p *placed) Unwrap() error { return p.err }

// At: an error, at a place.
func At(e error, what string, n int) error {
	if e == nil {
		return nil
	}
	return &placed{e, Place{what, n}}
}

// Kind: which error it is.
func Kind(e error) (k api.Errno) {
	if e == nil {
		return api.OK
	}
	// The methods of an error from elsewhere may panic.
	defer func() {
		if recover() != nil {
			k = api.ErrNone
		}
	}()
	var found api.Errno
	if errors.As(e, &found) {
		return found
	}
	return api.ErrNone
}

// Is: is it that one?
func Is(e error, k api.Errno) (is bool) {
	if k == api.OK {
		return e == nil
	}
	// The methods of an error from elsewhere may panic.
	defer func() {
		if recover() != nil {
			is = false
		}
	}()
	return errors.Is(e, k)
}

// Path: the places, the outer ones ahead.
func Path(e error) []Place {
	var l []Place
	// Not errors.As: the path ends at the first error that At didn't make.
	for p, ok := e.(*placed); ok; p, ok = p.err.(*placed) {
		l = append(l, p.place)
	}
	return l
}

// Text: the places and the error in words.
func Text(e error) string {
	var b strings.Builder
	for _, p := range Path(e) {
		b.WriteString(p.What)
		b.WriteString(" ")
		b.WriteString(strconv.Itoa(p.N))
		b.WriteString(": ")
	}
	b.WriteString(Kind(e).Error())
	return b.String()
}
