// Package batch is layer 3: changes of counts: see shared/doc/03-batch.md.
package batch

import (
	"cmp"
	"slices"

	"marchland/api"
)

// Change is by how much there are more of a port and a time.
type Change struct {
	Port int
	Time uint64
	Diff int64
}

// Batch is changes, rising, none of nothing.
type Batch []Change

// Right: may it be?
func Right(b Batch) bool {
	for i, c := range b {
		if wrong(c) != api.OK || c.Diff == 0 || i > 0 && compare(b[i-1], c) >= 0 {
			return false
		}
	}
	return true
}

// Pack: of any changes, the sums of those of one port and time.
func Pack(l []Change) (Batch, api.Errno) {
	if len(l) > api.MaxList {
		return nil, api.ErrMany
	}
	for _, c := range l {
		if e := wrong(c); e != api.OK {
			return nil, e
		}
	}
	sorted := slices.Clone(l)
	slices.SortFunc(sorted, compare)
	return sums(sorted)
}

// Merge: the sums of both.
func Merge(a, b Batch) (Batch, api.Errno) {
	return sums(weave(a, b))
}

// Of: by how much of a port and a time.
func Of(b Batch, port int, time uint64) int64 {
	i, found := slices.BinarySearchFunc(b, Change{Port: port, Time: time}, compare)
	if !found {
		return 0
	}
	return b[i].Diff
}

// Minus: the other way round.
func Minus(b Batch) Batch {
	m := slices.Clone(b)
	for i := range m {
		m[i].Diff = -m[i].Diff
	}
	return m
}

// Same: the same changes?
func Same(a, b Batch) bool { return slices.Equal(a, b) }

func wrong(c Change) api.Errno {
	switch {
	case c.Port < 0 || c.Port >= api.MaxPorts:
		return api.ErrPort
	case c.Time == api.Never:
		return api.ErrArg
	case over(c.Diff):
		return api.ErrOver
	}
	return api.OK
}

func over(diff int64) bool { return diff < -api.MaxCount || diff > api.MaxCount }

func compare(a, b Change) int {
	return cmp.Or(cmp.Compare(a.Port, b.Port), cmp.Compare(a.Time, b.Time))
}

// sums adds up neighbours of one port and time. Only a whole sum counts, what
// comes between may be beyond the limit: 16 Diffs of 2^59 wrap round to -2^63,
// which is beyond it too, so that no wrap hides a sum that is too great.
func sums(sorted []Change) (Batch, api.Errno) {
	var b Batch
	for i := 0; i < len(sorted); {
		sum := sorted[i]
		for i++; i < len(sorted) && compare(sum, sorted[i]) == 0; i++ {
			sum.Diff += sorted[i].Diff
		}
		if over(sum.Diff) {
			return nil, api.ErrOver
		}
		if sum.Diff != 0 {
			b = append(b, sum)
		}
	}
	return b, api.OK
}

// weave lays two rising lists into one rising list, without sorting again what is sorted.
func weave(a, b Batch) []Change {
	l := make([]Change, 0, len(a)+len(b))
	for len(a) > 0 && len(b) > 0 {
		if compare(a[0], b[0]) <= 0 {
			l, a = append(l, a[0]), a[1:]
		} else {
			l, b = append(l, b[0]), b[1:]
		}
	}
	return append(append(l, a...), b...)
}
