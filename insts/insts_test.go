package insts_test

import (
	"cmp"
	"slices"
	"testing"

	"countinghouse/api"
	"countinghouse/insts"
)

func TestInOrder(t *testing.T) {
	l := []api.Inst{{Rep: -1, Num: 9}, {Rep: 0, Num: 1}, {Rep: 0, Num: 2}, {Rep: 0, Num: 10}, {Rep: 1, Num: 1}}
	m := map[api.Inst]int{}
	for i, a := range l {
		m[a] = i
		for j, b := range l {
			if insts.Compare(a, b) != cmp.Compare(i, j) {
				t.Error(a, b)
			}
		}
	}
	if got := insts.Sorted(m); !slices.Equal(got, l) {
		t.Error(got)
	}
}
