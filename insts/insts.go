// Package insts puts Insts in order: by their replicas, then by their numbers.
package insts

import (
	"cmp"
	"slices"

	"countinghouse/api"
)

// Compare returns a number below 0 if a comes before b, above 0 if b comes before a, and otherwise 0.
func Compare(a, b api.Inst) int {
	return cmp.Or(cmp.Compare(a.Rep, b.Rep), cmp.Compare(a.Num, b.Num))
}

// Sorted returns the keys of m in order.
func Sorted[T any](m map[api.Inst]T) []api.Inst {
	var l []api.Inst
	for i := range m {
		l = append(l, i)
	}
	slices.SortFunc(l, Compare)
	return l
}
