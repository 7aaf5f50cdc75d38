package replica

import (
	"slices"

	"countinghouse/api"
	"countinghouse/copies"
	"countinghouse/insts"
)

// Majority returns n / 2, rounded down, plus 1.
func Majority(n int) int {
	return n/2 + 1
}

// Union returns the Insts of a and b, in order, each once.
func Union(a, b []api.Inst) []api.Inst {
	l := slices.Concat(a, b)
	slices.SortFunc(l, insts.Compare)
	return slices.Compact(l)
}

// Choose decides from slots of one Inst what is to be done with it.
func Choose(l []api.Slot) (int, api.Entry) {
	if s, found := first(l, func(s api.Slot) bool { return s.State == api.Settled }); found {
		return api.Agreed, copies.Entry(s.Entry)
	}
	by := greatestBy(l)
	if s, found := first(l, func(s api.Slot) bool { return s.State == api.Agreed && s.By == by }); found {
		return api.Agreed, copies.Entry(s.Entry)
	}
	if len(l) > 0 && allAlike(l) {
		return api.Agreed, copies.Entry(l[0].Entry)
	}
	s, found := first(l, isHeard)
	if !found {
		return api.Blank, api.Entry{}
	}
	entry := copies.Entry(s.Entry)
	for _, s := range l {
		if isHeard(s) {
			entry.Deps = Union(entry.Deps, s.Entry.Deps)
		}
	}
	return api.Heard, entry
}

func isHeard(s api.Slot) bool { return s.State == api.Heard }

func first(l []api.Slot, is func(api.Slot) bool) (api.Slot, bool) {
	at := slices.IndexFunc(l, is)
	if at < 0 {
		return api.Slot{}, false
	}
	return l[at], true
}

// greatestBy returns the greatest By of those that are Heard or Agreed.
func greatestBy(l []api.Slot) int {
	var bys []int
	for _, s := range l {
		if s.State == api.Heard || s.State == api.Agreed {
			bys = append(bys, s.By)
		}
	}
	if len(bys) == 0 {
		return 0
	}
	return slices.Max(bys)
}

// allAlike reports whether all are as their leader sent them at first, so that the entry may have been committed.
func allAlike(l []api.Slot) bool {
	for _, s := range l {
		if !isHeard(s) || s.By != 0 || !slices.Equal(s.Entry.Deps, l[0].Entry.Deps) {
			return false
		}
	}
	return true
}
