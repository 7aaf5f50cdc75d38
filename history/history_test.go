package history_test

import (
	"math/rand"
	"slices"
	"testing"

	"countinghouse/api"
	"countinghouse/clash"
	"countinghouse/foata"
	"countinghouse/history"
	"countinghouse/order"
)

func id(client, seq int) api.Id { return api.Id{Client: client, Seq: seq} }

func ids(seqs ...int) []api.Id {
	var l []api.Id
	for _, seq := range seqs {
		l = append(l, id(1, seq))
	}
	return l
}

func ask(seq int, acct string) api.Order {
	return api.Order{Id: id(1, seq), Kind: api.Ask, Acct: acct}
}

func open(seq int, acct string) api.Order {
	return api.Order{Id: id(1, seq), Kind: api.Open, Acct: acct}
}

func closing(seq int) api.Order {
	return api.Order{Id: id(1, seq), Kind: api.Close, Period: seq}
}

func post(seq int, from, to string) api.Order {
	return api.Order{Id: id(1, seq), Kind: api.Post, Period: 9, Legs: []api.Leg{{Acct: from, Sum: -5}, {Acct: to, Sum: 5}}}
}

func list(l ...api.Order) []api.Order { return l }

func same(a, b []api.Order) bool { return slices.EqualFunc(a, b, order.Same) }

func sameIds(a, b [][]api.Id) bool { return slices.EqualFunc(a, b, slices.Equal) }

// twice is no valid list.
func twice() []api.Order { return list(ask(1, "a"), ask(2, "b"), ask(1, "a")) }

func TestRowAndShapeP23_1(t *testing.T) {
	a, b, c, ab, d := ask(3, "a"), ask(2, "b"), ask(1, "c"), post(4, "a", "b"), closing(5)
	for i, x := range []struct {
		l, row []api.Order
		shape  []int
	}{
		{nil, nil, nil},
		{list(a), list(a), []int{1}},
		{list(a, b, c), list(c, b, a), []int{3}},
		{list(a, ab, b, c), list(c, a, ab, b), []int{2, 1, 1}},
		{list(ab, a, b, c), list(c, ab, b, a), []int{2, 2}},
		{list(a, d, b, c), list(a, d, c, b), []int{1, 1, 2}},
		{twice(), nil, nil},
	} {
		if got := history.Row(x.l); !same(got, x.row) {
			t.Error(i, got)
		}
		if got := history.Shape(x.l); !slices.Equal(got, x.shape) {
			t.Error(i, got)
		}
	}
}

func TestBeforeP23_1(t *testing.T) {
	l := list(ask(1, "a"), ask(2, "b"), ask(3, "c"), post(4, "a", "b"), ask(5, "d"), post(6, "b", "d"), ask(7, "a"), ask(8, "c"))
	for seq, want := range map[int][]api.Id{
		1: nil, 2: nil, 3: nil, 4: ids(1, 2), 5: nil, 6: ids(1, 2, 4, 5), 7: ids(1, 2, 4), 8: ids(3), 9: nil, 0: nil,
	} {
		if got := history.Before(l, id(1, seq)); !slices.Equal(got, want) {
			t.Error(seq, got)
		}
	}
	if got := history.Before(l, id(2, 6)); len(got) != 0 {
		t.Error(got)
	}
	if got := history.Before(twice(), id(1, 1)); len(got) != 0 {
		t.Error(got)
	}
	if got := history.Before(nil, id(1, 1)); len(got) != 0 {
		t.Error(got)
	}
	all := append(l, closing(9))
	if got := history.Before(all, id(1, 9)); !slices.Equal(got, ids(1, 2, 3, 4, 5, 6, 7, 8)) {
		t.Error(got)
	}
	if got := history.Before(list(open(2, "z"), ask(9, "y"), open(1, "x"), ask(3, "x")), id(1, 3)); !slices.Equal(got, ids(2, 1)) {
		t.Error(got)
	}
}

func TestCommonAndGapP23_1(t *testing.T) {
	a, b, a2, b2, d := ask(1, "a"), ask(2, "b"), ask(3, "a"), ask(4, "b"), closing(5)
	other := ask(1, "z")
	for i, x := range []struct {
		a, b, common []api.Order
	}{
		{nil, nil, nil},
		{list(a), nil, nil},
		{list(a), list(a), list(a)},
		{list(a, b), list(b, a), list(a, b)},
		{list(b, a), list(a, b), list(b, a)},
		{list(a, a2), list(a2, a), nil},
		{list(a, a2, b), list(a2, b, a), list(b)},
		{list(a, b, a2, b2), list(b, b2, a), list(a, b, b2)},
		{list(a, b, a2), list(a, b2, b), list(a)},
		{list(a, b, a2), list(a2, b), list(b)},
		{list(a2, b), list(a, b, a2), list(b)},
		{list(a, d, b), list(a, b, d), list(a)},
		{list(a, d), list(a, d, b), list(a, d)},
		{list(a, b), list(other, b), list(b)},
		{list(a, a2), list(other, a2), nil},
		{list(other, a2), list(a2), list(a2)},
	} {
		if got := history.Common(x.a, x.b); !same(got, x.common) {
			t.Error(i, got)
		}
		n, inA, inB := history.Gap(x.a, x.b)
		if n != len(x.common) || inA != len(x.a)-n || inB != len(x.b)-n {
			t.Error(i, n, inA, inB)
		}
	}
	for i, x := range [][2][]api.Order{{twice(), list(a)}, {list(a), twice()}, {twice(), twice()}, {twice(), nil}, {nil, twice()}} {
		n, inA, inB := history.Gap(x[0], x[1])
		if got := history.Common(x[0], x[1]); len(got) != 0 || n != 0 || inA != 0 || inB != 0 {
			t.Error(i, got, n, inA, inB)
		}
	}
}

func TestApartP23_1(t *testing.T) {
	for i, x := range []struct {
		l    []api.Order
		want [][]api.Id
	}{
		{nil, nil},
		{list(ask(1, "a"), ask(2, "b")), [][]api.Id{ids(1), ids(2)}},
		{list(ask(2, "b"), ask(1, "a")), [][]api.Id{ids(2), ids(1)}},
		{list(ask(1, "a"), ask(2, "b"), ask(3, "a")), [][]api.Id{ids(1, 3), ids(2)}},
		{list(ask(4, "a"), ask(2, "b"), ask(3, "c"), post(1, "c", "a")), [][]api.Id{ids(4, 3, 1), ids(2)}},
		{list(ask(9, "d"), post(1, "a", "b"), ask(4, "c"), post(2, "b", "c"), ask(3, "e")), [][]api.Id{ids(9), ids(1, 4, 2), ids(3)}},
		{list(ask(1, "a"), ask(2, "b"), closing(3)), [][]api.Id{ids(1, 2, 3)}},
		{list(open(1, "a"), ask(2, "b"), open(3, "b")), [][]api.Id{ids(1, 2, 3)}},
		{twice(), nil},
	} {
		if got := history.Apart(x.l); !sameIds(got, x.want) {
			t.Error(i, got)
		}
	}
}

func TestNewMemoryP23_1(t *testing.T) {
	l := list(post(1, "a", "b"), post(2, "c", "d"))
	for _, got := range [][]api.Order{history.Row(l), history.Common(l, l)} {
		for _, o := range got {
			clear(o.Legs)
		}
		clear(got)
	}
	for _, g := range history.Apart(l) {
		_ = append(g, id(9, 9))
	}
	if !same(l, list(post(1, "a", "b"), post(2, "c", "d"))) {
		t.Error("the argument has changed")
	}
}

func anyOrder(r *rand.Rand, seq int) api.Order {
	x, y := string(rune('a'+r.Intn(4))), string(rune('e'+r.Intn(2)))
	switch r.Intn(12) {
	case 0:
		return closing(seq)
	case 1, 2:
		return open(seq, x)
	case 3, 4:
		return post(seq, x, y)
	}
	return ask(seq, x)
}

// longest is how long a list can be that begins both, by trying all parts of a.
func longest(a, b []api.Order) int {
	best := 0
	for set := range 1 << len(a) {
		var l []api.Order
		for i, o := range a {
			if set>>i&1 == 1 {
				l = append(l, o)
			}
		}
		// A list that begins a has all it has in the order of a, as far as that matters.
		if len(l) > best && clash.Begins(l, a) && clash.Begins(l, b) {
			best = len(l)
		}
	}
	return best
}

func TestLongestCommonP23_2(t *testing.T) {
	r := rand.New(rand.NewSource(23))
	partly := 0
	for range 1500 {
		var a []api.Order
		for seq := range r.Intn(8) {
			a = append(a, anyOrder(r, seq+1))
		}
		b := slices.Clone(a)
		for range r.Intn(4) {
			if len(b) > 1 {
				i, j := r.Intn(len(b)), r.Intn(len(b))
				b[i], b[j] = b[j], b[i]
			}
		}
		b = append(b[:len(b)-r.Intn(len(b)+1)/2], anyOrder(r, 20))
		got := history.Common(a, b)
		if !clash.Begins(got, a) || !clash.Begins(got, b) || len(got) != longest(a, b) {
			t.Fatal(a, b, got)
		}
		if len(got) > 0 && len(got) < len(a) {
			partly++
		}
		if back := history.Common(b, a); !clash.Alike(got, back) {
			t.Fatal(a, b, got, back)
		}
	}
	if partly < 100 {
		t.Error(partly)
	}
}

func TestEquivalentListsP23_2(t *testing.T) {
	r := rand.New(rand.NewSource(24))
	for range 500 {
		var l []api.Order
		for seq := range 1 + r.Intn(14) {
			l = append(l, anyOrder(r, seq+1))
		}
		m := l
		for range 40 {
			if next, ok := clash.Swap(m, r.Intn(len(m))); ok {
				m = next
			}
		}
		if !same(history.Common(l, m), l) {
			t.Fatal(l, m)
		}
		row := history.Row(l)
		if !clash.Alike(row, l) || !same(history.Row(row), row) || !same(history.Row(m), row) {
			t.Fatal(l, row)
		}
		n := 0
		for k, size := range history.Shape(l) {
			n += size
			if size != len(foata.Steps(l)[k]) {
				t.Fatal(l, k, size)
			}
		}
		if n != len(l) {
			t.Fatal(l, n)
		}
		definitions(t, l)
	}
}

// definitions checks Before and Apart by what they mean.
func definitions(t *testing.T, l []api.Order) {
	t.Helper()
	reach := make([][]bool, len(l))
	for i := range l {
		reach[i] = make([]bool, len(l))
		for j := range i {
			direct := clash.Clash(l[i], l[j])
			for k := range len(l) {
				reach[i][k] = reach[i][k] || direct && (k == j || reach[j][k])
			}
		}
	}
	group := make([]int, len(l))
	for i := range l {
		group[i] = i
		var want []api.Id
		for j := range i {
			if reach[i][j] {
				want = append(want, l[j].Id)
				old, now := max(group[i], group[j]), min(group[i], group[j])
				for k := range group {
					if group[k] == old {
						group[k] = now
					}
				}
			}
		}
		if got := history.Before(l, l[i].Id); !slices.Equal(got, want) {
			t.Fatal(l, i, got, want)
		}
	}
	var want [][]api.Id
	for i := range l {
		var one []api.Id
		for j := range l {
			if group[j] == i {
				one = append(one, l[j].Id)
			}
		}
		if len(one) > 0 {
			want = append(want, one)
		}
	}
	if got := history.Apart(l); !sameIds(got, want) {
		t.Fatal(l, got, want)
	}
}
