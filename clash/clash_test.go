package clash_test

import (
	"math"
	"math/rand"
	"slices"
	"testing"

	"countinghouse/api"
	"countinghouse/book"
	"countinghouse/clash"
	"countinghouse/order"
)

func id(client, seq int) api.Id { return api.Id{Client: client, Seq: seq} }

func ask(seq int, acct string) api.Order {
	return api.Order{Id: id(1, seq), Kind: api.Ask, Acct: acct}
}

func open(seq int, acct string) api.Order {
	return api.Order{Id: id(1, seq), Kind: api.Open, Acct: acct, Sum: 50}
}

func closing(seq int) api.Order {
	return api.Order{Id: id(1, seq), Kind: api.Close, Period: seq}
}

func post(seq int, accts ...string) api.Order {
	o := api.Order{Id: id(1, seq), Kind: api.Post, Period: 9}
	for i, a := range accts {
		o.Legs = append(o.Legs, api.Leg{Acct: a, Sum: int64(2*i - 1)})
	}
	return o
}

func holding(seq int, acct string) api.Order {
	return api.Order{Id: id(1, seq), Kind: api.Hold, Acct: acct, Sum: 3}
}

func capture(seq int, acct, peer string) api.Order {
	return api.Order{Id: id(1, seq), Kind: api.Capture, Acct: acct, Peer: peer, Hold: 1001, Sum: 1, Period: 9}
}

func release(seq int, acct string) api.Order {
	return api.Order{Id: id(1, seq), Kind: api.Release, Acct: acct, Hold: 1001}
}

func list(l ...api.Order) []api.Order { return l }

func same(a, b []api.Order) bool { return slices.EqualFunc(a, b, order.Same) }

func TestClashP10_1(t *testing.T) {
	for i, x := range []struct {
		a, b api.Order
		want bool
	}{
		{ask(1, "a"), ask(2, "b"), false},
		{ask(1, "a"), ask(2, "a"), true},
		{ask(1, "a"), ask(1, "b"), true},
		{ask(1, "a"), ask(1, "a"), true},
		{ask(1, "a"), ask(2, "ab"), false},
		{ask(1, "a"), closing(2), true},
		{closing(1), closing(2), true},
		{open(1, "a"), open(2, "b"), true},
		{open(1, "a"), ask(2, "b"), false},
		{open(1, "a"), ask(2, "a"), true},
		{open(1, "a"), closing(2), true},
		{post(1, "a", "b"), post(2, "c", "d"), false},
		{post(1, "a", "b"), post(2, "c", "b"), true},
		{post(1, "a", "b", "c"), ask(2, "c"), true},
		{post(1, "a", "b", "c"), ask(2, "d"), false},
		{post(1, "a", "b"), closing(2), true},
		{capture(1, "a", "b"), ask(2, "b"), true},
		{capture(1, "a", "b"), ask(2, "a"), true},
		{capture(1, "a", "b"), capture(2, "b", "c"), true},
		{capture(1, "a", "b"), capture(2, "c", "d"), false},
		{capture(1, "a", "b"), release(2, "c"), false},
		{holding(1, "a"), release(2, "a"), true},
		{holding(1, "a"), release(2, "b"), false},
		{holding(1, "a"), open(2, "b"), false},
		{api.Order{Id: id(1, 1)}, api.Order{Id: id(2, 1)}, false},
		{api.Order{Id: id(1, 1)}, api.Order{Id: id(1, 1), Kind: 9}, true},
	} {
		if clash.Clash(x.a, x.b) != x.want || clash.Clash(x.b, x.a) != x.want {
			t.Error(i, "is not", x.want)
		}
	}
}

func TestRightP10_1(t *testing.T) {
	for i, x := range []struct {
		l    []api.Order
		want bool
	}{
		{nil, true}, {list(), true}, {list(ask(1, "a")), true}, {list(ask(1, "a"), ask(2, "a")), true},
		{list(ask(1, "a"), ask(1, "a")), false}, {list(ask(1, "a"), closing(2), open(1, "b")), false},
		{list(api.Order{}), true}, {list(api.Order{Id: id(1, 2)}, api.Order{Id: id(2, 1)}), true},
	} {
		if clash.Right(x.l) != x.want {
			t.Error(i)
		}
	}
}

func TestAlikeP10_1(t *testing.T) {
	a, b, a2, c := ask(1, "a"), ask(2, "b"), ask(3, "a"), closing(4)
	other := ask(2, "c")
	for i, x := range []struct {
		a, b []api.Order
		want bool
	}{
		{nil, nil, true},
		{nil, list(), true},
		{list(a), nil, false},
		{list(a, b), list(b, a), true},
		{list(a, b), list(a, b), true},
		{list(a, b), list(a, other), false},
		{list(a, a2), list(a2, a), false},
		{list(a, b, a2), list(a, a2, b), true},
		{list(a, b, a2), list(b, a, a2), true},
		{list(a, b, a2), list(a2, b, a), false},
		{list(a, c, b), list(b, c, a), false},
		{list(a, c, b), list(a, b, c), false},
		{list(a, b, c), list(b, a, c), true},
		{list(a, b), list(a, b, a2), false},
		{list(a, b, a2), list(a, b), false},
		{list(a, a), list(a, a), false},
		{list(a, b), list(a, a), false},
		{list(a, a), list(a, b), false},
	} {
		if clash.Alike(x.a, x.b) != x.want || clash.Alike(x.b, x.a) != x.want {
			t.Error(i, "is not", x.want)
		}
	}
}

func TestSwapP10_1(t *testing.T) {
	l := list(post(1, "a", "b"), post(2, "c", "d"), ask(3, "c"))
	before := list(post(1, "a", "b"), post(2, "c", "d"), ask(3, "c"))
	got, ok := clash.Swap(l, 0)
	if !ok || !same(got, list(l[1], l[0], l[2])) {
		t.Error(got, ok)
	}
	for _, o := range got {
		clear(o.Legs)
	}
	if !same(l, before) {
		t.Error("the argument has changed")
	}
	if got, ok := clash.Swap(l[:2], 0); !ok || !same(got, list(l[1], l[0])) {
		t.Error(got, ok)
	}
	for _, i := range []int{1, 2, 3, -1, math.MaxInt, math.MinInt} {
		if got, ok := clash.Swap(l, i); ok || len(got) != 0 {
			t.Error(i, got, ok)
		}
	}
	for _, l := range [][]api.Order{nil, list(ask(1, "a"))} {
		if got, ok := clash.Swap(l, 0); ok || len(got) != 0 {
			t.Error(got, ok)
		}
	}
}

func TestBeginsAndRestP10_1(t *testing.T) {
	a, b, a2, b2, c := ask(1, "a"), ask(2, "b"), ask(3, "a"), ask(4, "b"), closing(5)
	for i, x := range []struct {
		a, b []api.Order
		want bool
		rest []api.Order
	}{
		{nil, nil, true, nil},
		{nil, list(a, b), true, list(a, b)},
		{list(a), list(a, b), true, list(b)},
		{list(b), list(a, b), true, list(a)},
		{list(a2), list(a, b, a2), false, nil},
		{list(a), list(a, b, a2), true, list(b, a2)},
		{list(b, a), list(a, b, a2), true, list(a2)},
		{list(a, a2), list(a, b, a2, b2), true, list(b, b2)},
		{list(a2, a), list(a, b, a2), false, nil},
		{list(a, b2), list(a, b, a2, b2), false, nil},
		{list(b), list(a, c, b), false, nil},
		{list(a, c), list(a, c, b), true, list(b)},
		{list(c), list(a, c, b), false, nil},
		{list(a, c), list(a, b, c), false, nil},
		{list(a, b), list(a), false, nil},
		{list(ask(1, "z")), list(a, b), false, nil},
		{list(a), list(a, b, b), false, nil},
		{list(a, a), list(a, b), false, nil},
		{list(a, a), list(a, a), false, nil},
	} {
		if clash.Begins(x.a, x.b) != x.want {
			t.Error(i, "is not", x.want)
		}
		if got := clash.Rest(x.a, x.b); !same(got, x.rest) {
			t.Error(i, got)
		}
	}
}

func TestMeetP10_1(t *testing.T) {
	a, b, a2, b2, c := ask(1, "a"), ask(2, "b"), ask(3, "a"), ask(4, "b"), closing(5)
	for i, x := range []struct {
		a, b []api.Order
		ok   bool
		want []api.Order
	}{
		{nil, nil, true, nil},
		{list(a), nil, true, list(a)},
		{nil, list(a), true, list(a)},
		{list(a), list(b), true, list(a, b)},
		{list(b), list(a), true, list(b, a)},
		{list(a, a2), list(b, a, b2), true, list(a, a2, b, b2)},
		{list(a, a2), list(b, b2), true, list(a, a2, b, b2)},
		{list(a), list(a2), false, nil},
		{list(a), list(a, a2), true, list(a, a2)},
		{list(a, a2), list(a), true, list(a, a2)},
		{list(a, a2), list(a2), false, nil},
		{list(a), list(c), false, nil},
		{list(a), list(a, b, c), true, list(a, b, c)},
		{list(a, b2), list(a, b, c), false, nil},
		{list(a, b), list(a, ask(2, "c")), false, nil},
		{list(a, a), list(a), false, nil},
		{list(a), list(b, b), false, nil},
	} {
		got, ok := clash.Meet(x.a, x.b)
		if ok != x.ok || !same(got, x.want) {
			t.Error(i, got, ok)
		}
	}
}

func TestNewMemoryP10_1(t *testing.T) {
	a, b := list(post(1, "a", "b")), list(post(1, "a", "b"), post(2, "c", "d"))
	l, _ := clash.Meet(a, b)
	for _, l := range [][]api.Order{l, clash.Rest(a, b)} {
		for _, o := range l {
			clear(o.Legs)
		}
	}
	if !same(a, list(post(1, "a", "b"))) || !same(b, list(post(1, "a", "b"), post(2, "c", "d"))) {
		t.Error("the results share memory with the arguments")
	}
}

func anyOrder(r *rand.Rand, seq int) api.Order {
	name := func() string { return string(rune('a' + r.Intn(4))) }
	p := r.Perm(4)
	x, y := string(rune('a'+p[0])), string(rune('a'+p[1]))
	switch r.Intn(9) {
	case 0:
		return closing(seq)
	case 1, 2:
		return open(seq, name())
	case 3:
		return post(seq, x, y)
	case 4:
		return holding(seq, name())
	case 5:
		return capture(seq, x, y)
	case 6:
		return release(seq, name())
	}
	return ask(seq, name())
}

// alike is equivalence, word for word.
func alike(a, b []api.Order) bool {
	if len(a) != len(b) {
		return false
	}
	at := func(o api.Order) int { return slices.IndexFunc(b, func(p api.Order) bool { return order.Same(o, p) }) }
	for i, o := range a {
		if at(o) < 0 {
			return false
		}
		for _, p := range a[i+1:] {
			if clash.Clash(o, p) && at(o) > at(p) {
				return false
			}
		}
	}
	return true
}

// begins tries all that could be appended.
func begins(a, b []api.Order) bool {
	var rest []api.Order
	for _, o := range b {
		if !slices.ContainsFunc(a, func(p api.Order) bool { return o.Id == p.Id }) {
			rest = append(rest, o)
		}
	}
	var all func(l, rest []api.Order) bool
	all = func(l, rest []api.Order) bool {
		if len(rest) == 0 {
			return alike(l, b)
		}
		for i := range rest {
			if all(append(slices.Clone(l), rest[i]), slices.Delete(slices.Clone(rest), i, i+1)) {
				return true
			}
		}
		return false
	}
	return all(a, rest)
}

func TestDefinitionsP10_1(t *testing.T) {
	r := rand.New(rand.NewSource(10))
	counts := map[bool]int{}
	for range 3000 {
		var b []api.Order
		for seq := range r.Intn(6) {
			b = append(b, anyOrder(r, seq+1))
		}
		a := slices.Clone(b)
		r.Shuffle(len(a), func(i, j int) {
			if r.Intn(2) == 0 {
				a[i], a[j] = a[j], a[i]
			}
		})
		if clash.Alike(a, b) != alike(a, b) {
			t.Fatal("Alike", a, b)
		}
		a = a[:r.Intn(len(a)+1)]
		want := begins(a, b)
		counts[want]++
		if clash.Begins(a, b) != want {
			t.Fatal("Begins", a, b)
		}
		if want != clash.Alike(append(slices.Clone(a), clash.Rest(a, b)...), b) {
			t.Fatal("Rest", a, b)
		}
		if l, ok := clash.Meet(a, b); ok && (!clash.Begins(a, l) || !clash.Begins(b, l)) || want && !ok {
			t.Fatal("Meet", a, b)
		}
	}
	if counts[true] < 100 || counts[false] < 100 {
		t.Error(counts)
	}
}

func TestEquivalentListsP10_2(t *testing.T) {
	r := rand.New(rand.NewSource(11))
	for range 300 {
		var l []api.Order
		for seq := range 14 {
			l = append(l, anyOrder(r, seq+1))
		}
		replies, b := book.Fold(l)
		told := map[api.Id]api.Reply{}
		for i, o := range l {
			told[o.Id] = replies[i]
		}
		for range 60 {
			next, ok := clash.Swap(l, r.Intn(len(l)-1))
			if !ok {
				continue
			}
			if !clash.Alike(l, next) {
				t.Fatal(l, next)
			}
			l = next
		}
		replies, c := book.Fold(l)
		for i, o := range l {
			if told[o.Id] != replies[i] {
				t.Fatal(o, told[o.Id], replies[i])
			}
		}
		if !book.Same(b, c) {
			t.Fatal(l)
		}
	}
}
