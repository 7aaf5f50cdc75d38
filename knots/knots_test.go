package knots_test

import (
	"math"
	"math/rand"
	"slices"
	"testing"

	"countinghouse/knots"
)

func same(a, b [][]int) bool { return slices.EqualFunc(a, b, slices.Equal) }

func TestKnotsP13_1(t *testing.T) {
	for i, x := range []struct{ g, want [][]int }{
		{nil, nil},
		{[][]int{{}}, [][]int{{0}}},
		{[][]int{{0}}, [][]int{{0}}},
		{[][]int{{1}, {2}, {1}}, [][]int{{1, 2}, {0}}},
		{[][]int{nil, nil, nil}, [][]int{{0}, {1}, {2}}},
		{[][]int{{2}, nil, nil}, [][]int{{1}, {2}, {0}}},
		{[][]int{{3}, nil, nil, nil}, [][]int{{1}, {2}, {3}, {0}}},
		{[][]int{{3}, nil, {0}, nil}, [][]int{{1}, {3}, {0}, {2}}},
		{[][]int{{1}, {2}, {0}}, [][]int{{0, 1, 2}}},
		{[][]int{{4}, {3}, {1}, {2}, {0}}, [][]int{{0, 4}, {1, 2, 3}}},
		{[][]int{{4, 3}, {3}, {1}, {2}, {0}}, [][]int{{1, 2, 3}, {0, 4}}},
		{[][]int{{-1, 3, 7, math.MaxInt, math.MinInt, 1, 1, 1}, {0, 0}, {5}}, [][]int{{0, 1}, {2}}},
		{[][]int{{5}, {4}, nil, nil, nil, {3}}, [][]int{{2}, {3}, {4}, {1}, {5}, {0}}},
	} {
		if got := knots.Knots(x.g); !same(got, x.want) {
			t.Error(i, got)
		}
		if got := knots.Order(x.g); !slices.Equal(got, slices.Concat(x.want...)) {
			t.Error(i, got)
		}
	}
}

func TestReachP13_1(t *testing.T) {
	g := [][]int{{1, 1, 9}, {2, -1}, {1}, {0}, {4}, {}}
	for from, want := range map[int][]int{
		0: {1, 2}, 1: {1, 2}, 2: {1, 2}, 3: {0, 1, 2}, 4: {4}, 5: nil, -1: nil, 6: nil, math.MaxInt: nil, math.MinInt: nil,
	} {
		if got := knots.Reach(g, from); !slices.Equal(got, want) {
			t.Error(from, got)
		}
	}
	if got := knots.Reach(nil, 0); len(got) != 0 {
		t.Error(got)
	}
}

func TestOpenP13_1(t *testing.T) {
	g := [][]int{{1}, {2, 99, -1}, {1}, {0}, {4}, {}}
	for i, x := range []struct {
		known []bool
		want  []int
	}{
		{nil, nil},
		{[]bool{true, true, true, true, true, true}, []int{0, 1, 2, 3, 4, 5}},
		{[]bool{true, true, true, true, true, true, false, false}, []int{0, 1, 2, 3, 4, 5}},
		{[]bool{true, true, true}, []int{0, 1, 2}},
		{[]bool{true, true, false, true, true, true}, []int{4, 5}},
		{[]bool{false, true, true, true, false, false}, []int{1, 2}},
		{[]bool{false, false, false, true, false, true}, []int{5}},
		{[]bool{true, true}, nil},
	} {
		if got := knots.Open(g, x.known); !slices.Equal(got, x.want) {
			t.Error(i, got)
		}
	}
	if got := knots.Open(nil, []bool{true}); len(got) != 0 {
		t.Error(got)
	}
}

// reaches is all pairs, computed in the plainest way.
func reaches(g [][]int) [][]bool {
	r := make([][]bool, len(g))
	for i := range g {
		r[i] = make([]bool, len(g))
		for _, j := range g[i] {
			if j >= 0 && j < len(g) {
				r[i][j] = true
			}
		}
	}
	for k := range g {
		for i := range g {
			for j := range g {
				r[i][j] = r[i][j] || r[i][k] && r[k][j]
			}
		}
	}
	return r
}

func knotsOf(r [][]bool) [][]int {
	var all [][]int
	done := make([]bool, len(r))
	for i := range r {
		if done[i] {
			continue
		}
		var knot []int
		for j := range r {
			if j == i || r[i][j] && r[j][i] {
				knot, done[j] = append(knot, j), true
			}
		}
		all = append(all, knot)
	}
	var l [][]int
	for len(all) > 0 {
		for k, knot := range all {
			blocked := func(other []int) bool { return other[0] != knot[0] && r[knot[0]][other[0]] }
			if !slices.ContainsFunc(all, blocked) {
				l, all = append(l, knot), slices.Delete(all, k, k+1)
				break
			}
		}
	}
	return l
}

func TestDefinitionsP13_1P13_2(t *testing.T) {
	r := rand.New(rand.NewSource(13))
	for round := range 1500 {
		g := make([][]int, r.Intn(12))
		known := make([]bool, r.Intn(14))
		for range r.Intn(2*len(g) + 1) {
			i := r.Intn(len(g))
			g[i] = append(g[i], r.Intn(len(g)+2)-1)
		}
		for i := range known {
			known[i] = r.Intn(4) > 0
		}
		check(t, round, g, known)
	}
}

func check(t *testing.T, round int, g [][]int, known []bool) {
	t.Helper()
	all := reaches(g)
	got := knots.Knots(g)
	if want := knotsOf(all); !same(got, want) {
		t.Fatal(round, g, got, want)
	}
	order := knots.Order(g)
	if !slices.Equal(order, slices.Concat(got...)) {
		t.Fatal(round, order)
	}
	isKnown := func(i int) bool { return i < len(known) && known[i] }
	var open []int
	for i := range g {
		var reached []int
		good := isKnown(i)
		for j, yes := range all[i] {
			if yes {
				reached = append(reached, j)
				good = good && isKnown(j)
			}
		}
		if good {
			open = append(open, i)
		}
		if got := knots.Reach(g, i); !slices.Equal(got, reached) {
			t.Fatal(round, g, i, got, reached)
		}
	}
	if got := knots.Open(g, known); !slices.Equal(got, open) {
		t.Fatal(round, g, known, got, open)
	}
	once(t, g, got)
}

// once checks that each node is in one knot, and that no node depends on one of a later knot.
func once(t *testing.T, g, l [][]int) {
	t.Helper()
	at := map[int]int{}
	for k, knot := range l {
		for _, node := range knot {
			if _, twice := at[node]; twice {
				t.Fatal(node, "is in two knots")
			}
			at[node] = k
		}
	}
	if len(at) != len(g) {
		t.Fatal(len(at), "nodes of", len(g))
	}
	for i := range g {
		for _, j := range g[i] {
			if j >= 0 && j < len(g) && at[j] > at[i] {
				t.Fatal(i, "depends on the later", j)
			}
		}
	}
}

func TestThreeHundredNodesP13_1P13_2(t *testing.T) {
	r := rand.New(rand.NewSource(300))
	for _, edges := range []int{0, 200, 300, 330, 500, 3000} {
		g := make([][]int, 300)
		known := make([]bool, 300)
		for range edges {
			i := r.Intn(300)
			g[i] = append(g[i], r.Intn(300))
		}
		for i := range known {
			known[i] = r.Intn(30) > 0
		}
		check(t, edges, g, known)
	}
}

// Long chains would need too deep a recursion.
func TestLongChainP13_1(t *testing.T) {
	const n = 200000
	g := make([][]int, n)
	known := make([]bool, n)
	for i := range g {
		g[i], known[i] = []int{i + 1}, true
	}
	order := knots.Order(g)
	if len(order) != n || order[0] != n-1 || order[n-1] != 0 {
		t.Error(len(order))
	}
	if l := knots.Reach(g, 0); len(l) != n-1 {
		t.Error(len(l))
	}
	known[n-1] = false
	if l := knots.Open(g, known); len(l) != 0 {
		t.Error(len(l))
	}
	g[n-1] = []int{0}
	if l := knots.Knots(g); len(l) != 1 || len(l[0]) != n || !slices.IsSorted(l[0]) {
		t.Error(len(l))
	}
}

func TestNewMemoryP13_1(t *testing.T) {
	g := [][]int{{1, 1}, {0}, {7, 0}}
	before := [][]int{{1, 1}, {0}, {7, 0}}
	l := knots.Knots(g)
	for _, knot := range l {
		_ = append(knot, 77)
		clear(knot)
	}
	if !same(g, before) || !same(knots.Knots(g), [][]int{{0, 1}, {2}}) {
		t.Error("the argument has changed")
	}
}
