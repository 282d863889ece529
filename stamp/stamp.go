// Package stamp is layer 1: times, and how they go on: see shared/doc/01-stamp.md.
package stamp

import (
	"strconv"

	"marchland/api"
)

const never = "never"

// Plus: a time, so much later; Never where there is no such time.
func Plus(t, s uint64) uint64 {
	// The sum itself would wrap round; what is left up to Never can't.
	if s >= api.Never-t {
		return api.Never
	}
	return t + s
}

// Reaches: does it come to be another one, so much later, or an earlier one?
func Reaches(t, s, u uint64) bool {
	sum := Plus(t, s)
	return sum != api.Never && sum <= u
}

// Text: a time in words.
func Text(t uint64) string {
	if t == api.Never {
		return never
	}
	return strconv.FormatUint(t, 10)
}

// Parse: the time of a Text.
func Parse(s string) (uint64, api.Errno) {
	if s == never {
		return api.Never, api.OK
	}
	t, err := strconv.ParseUint(s, 10, 64)
	// One time has one text: noughts ahead, and Never's digits, come back as another one.
	if err != nil || Text(t) != s {
		return 0, api.ErrWord
	}
	return t, api.OK
}
