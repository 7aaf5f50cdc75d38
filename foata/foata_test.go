package foata_test

import (
	"bytes"
	"fmt"
	"math/rand"
	"slices"
	"strings"
	"testing"

	"countinghouse/api"
	"countinghouse/clash"
	"countinghouse/foata"
	"countinghouse/order"
	"countinghouse/pack"
)

func id(client, seq int) api.Id { return api.Id{Client: client, Seq: seq} }

func ask(client, seq int, acct string) api.Order {
	return api.Order{Id: id(client, seq), Kind: api.Ask, Acct: acct}
}

func open(client, seq int, acct string) api.Order {
	return api.Order{Id: id(client, seq), Kind: api.Open, Acct: acct}
}

func closing(client, seq int) api.Order {
	return api.Order{Id: id(client, seq), Kind: api.Close, Period: seq}
}

func post(client, seq int, from, to string) api.Order {
	return api.Order{Id: id(client, seq), Kind: api.Post, Legs: []api.Leg{{Acct: from, Sum: -5}, {Acct: to, Sum: 4}}, Period: 1000, Note: strings.Repeat("n", 20)}
}

func list(l ...api.Order) []api.Order { return l }

func same(a, b []api.Order) bool { return slices.EqualFunc(a, b, order.Same) }

func sameSteps(a, b [][]api.Order) bool { return slices.EqualFunc(a, b, same) }

func TestStepsP11_1(t *testing.T) {
	a, b, a2 := ask(0, 2, "a"), ask(0, 1, "b"), ask(0, 3, "a")
	ab := post(5, 5, "a", "b")
	c := closing(3, 7)
	for i, x := range []struct {
		l    []api.Order
		want [][]api.Order
	}{
		{nil, nil},
		{list(a), [][]api.Order{{a}}},
		{list(a, b, a2), [][]api.Order{{b, a}, {a2}}},
		{list(b, a, a2), [][]api.Order{{b, a}, {a2}}},
		{list(a, a2, b), [][]api.Order{{b, a}, {a2}}},
		{list(a2, a, b), [][]api.Order{{b, a2}, {a}}},
		{list(a, a2, ab, b), [][]api.Order{{a}, {a2}, {ab}, {b}}},
		{list(b, a, a2, ab), [][]api.Order{{b, a}, {a2}, {ab}}},
		{list(a, c, b), [][]api.Order{{a}, {c}, {b}}},
		{list(open(1, 1, "x"), open(0, 9, "y"), ask(0, 4, "y")), [][]api.Order{{open(1, 1, "x")}, {open(0, 9, "y")}, {ask(0, 4, "y")}}},
		{list(ask(2, 1, "a"), ask(0, 9, "b"), ask(1, 5, "c"), ask(1, 4, "d")), [][]api.Order{{ask(0, 9, "b"), ask(1, 4, "d"), ask(1, 5, "c"), ask(2, 1, "a")}}},
		{list(a, b, a), nil},
		{list(a, ask(0, 2, "b")), nil},
		{list(api.Order{Id: id(3, 3)}, api.Order{Id: id(3, 2)}), [][]api.Order{{{Id: id(3, 2)}, {Id: id(3, 3)}}}},
	} {
		got := foata.Steps(x.l)
		if !sameSteps(got, x.want) {
			t.Error(i, got)
		}
		if clash.Right(x.l) && !foata.Normal(got) {
			t.Error(i, "is not normal")
		}
	}
}

func encode(steps ...[]api.Order) []byte {
	n := func(n int) []byte { return pack.Num(int64(n)) }
	b := n(len(steps))
	for _, s := range steps {
		b = append(b, n(len(s))...)
		for _, o := range s {
			one, _ := order.Bytes(o)
			b = append(b, pack.Text(string(one))...)
		}
	}
	return b
}

func TestExportP11_1P11_2(t *testing.T) {
	a, b, a2, p := ask(0, 2, "a"), ask(0, 1, "b"), ask(0, 3, "a"), post(9, 999, "a", "longname")
	for i, x := range []struct {
		l    []api.Order
		want []byte
	}{
		{nil, []byte{0}},
		{list(a), encode(list(a))},
		{list(a, b, a2, p), encode(list(b, a), list(a2), list(p))},
		{list(p, b, a, a2), encode(list(b, p), list(a), list(a2))},
	} {
		got, e := foata.Export(x.l)
		if !bytes.Equal(got, x.want) || e != api.OK {
			t.Error(i, got, e)
		}
		steps, e := foata.Import(got)
		if e != api.OK || !sameSteps(steps, foata.Steps(x.l)) || !clash.Alike(foata.Lay(steps), x.l) {
			t.Error(i, steps, e)
		}
	}
	for i, l := range [][]api.Order{
		list(a, a), list(a, ask(0, 2, "b")), list(a, api.Order{}), list(ask(0, 5, "A")), list(a, ask(10, 1, "b")),
	} {
		if got, e := foata.Export(l); len(got) != 0 || e != api.ErrArg {
			t.Error(i, got, e)
		}
	}
}

func TestTwoHundredP11_1(t *testing.T) {
	for _, accts := range []int{1, 7, 1000} {
		var l []api.Order
		for i := range 201 {
			l = append(l, ask(i%10, 1+i/10, fmt.Sprint("a", i%accts)))
		}
		b, e := foata.Export(l[:200])
		if e != api.OK {
			t.Error(accts, e)
		}
		if steps, e := foata.Import(b); e != api.OK || !clash.Alike(foata.Lay(steps), l[:200]) {
			t.Error(accts, e)
		}
		if b, e := foata.Export(l); len(b) != 0 || e != api.ErrArg {
			t.Error(accts, len(b), e)
		}
		steps := foata.Steps(l)
		if len(foata.Lay(steps)) != 201 || !foata.Normal(steps) {
			t.Error(accts, len(steps))
		}
		refuses(t, encode(steps...))
	}
}

func refuses(t *testing.T, b []byte) {
	t.Helper()
	if s, e := foata.Import(b); len(s) != 0 || e != api.ErrBytes {
		t.Error(b, s, e)
	}
}

func TestImportRefusesP11_1(t *testing.T) {
	a, b, a2 := ask(0, 2, "a"), ask(0, 1, "b"), ask(0, 3, "a")
	for _, steps := range [][][]api.Order{
		{{}}, {{a}, {}}, {{}, {a}}, {{a, b}, {a2}}, {{a}, {b}}, {{a}, {b, a2}}, {{b, a, a2}}, {{a}, {a}}, {{a, a}}, {{b}, {a}, {a2}},
	} {
		refuses(t, encode(steps...))
	}
	good := encode(list(b, a), list(a2))
	if _, e := foata.Import(good); e != api.OK {
		t.Error(e)
	}
	for i := range good {
		refuses(t, good[:i])
		for v := range 256 {
			c := slices.Clone(good)
			c[i] = byte(v)
			steps, e := foata.Import(c)
			if e != api.OK {
				refuses(t, c)
			} else if again, e := foata.Export(foata.Lay(steps)); e != api.OK || !bytes.Equal(again, c) {
				t.Error(c, again)
			}
		}
	}
	refuses(t, append(slices.Clone(good), 0))
	refuses(t, []byte{2, 2, 2, 0})
	refuses(t, pack.Num(-1))
	refuses(t, pack.Num(1<<62))
	refuses(t, append(pack.Num(1), pack.Num(1<<62)...))
	refuses(t, []byte{2, 1})
}

func TestLayAndNormalP11_1(t *testing.T) {
	a, b, a2 := ask(0, 2, "a"), ask(0, 1, "b"), ask(0, 3, "a")
	if l := foata.Lay([][]api.Order{{a}, {}, nil, {a2, b}, {a}}); !same(l, list(a, a2, b, a)) {
		t.Error(l)
	}
	if l := foata.Lay(nil); len(l) != 0 {
		t.Error(l)
	}
	for i, x := range []struct {
		s    [][]api.Order
		want bool
	}{
		{nil, true},
		{[][]api.Order{}, true},
		{[][]api.Order{{a}}, true},
		{[][]api.Order{{b, a}, {a2}}, true},
		{[][]api.Order{{b, a2}, {a}}, true},
		{[][]api.Order{{a, b}, {a2}}, false},
		{[][]api.Order{{a}, {b}}, false},
		{[][]api.Order{{}}, false},
		{[][]api.Order{{a}, {}}, false},
		{[][]api.Order{{a}, {}, {a2}}, false},
		{[][]api.Order{{a, a2}}, false},
		{[][]api.Order{{a}, {a}}, false},
		{[][]api.Order{{a, a}}, false},
		{[][]api.Order{{{Id: id(-1, -5)}, a}}, true},
	} {
		if foata.Normal(x.s) != x.want {
			t.Error(i)
		}
	}
}

func TestNewMemoryP11_1(t *testing.T) {
	l := list(post(1, 1, "a", "b"), post(1, 2, "c", "d"))
	steps := foata.Steps(l)
	for _, o := range append(foata.Lay(steps), slices.Concat(steps...)...) {
		clear(o.Legs)
	}
	if !same(l, list(post(1, 1, "a", "b"), post(1, 2, "c", "d"))) {
		t.Error("the results share memory with the argument")
	}
	laid := foata.Lay(foata.Steps(l))
	clear(l[0].Legs)
	if !same(laid, list(post(1, 1, "a", "b"), post(1, 2, "c", "d"))) {
		t.Error("the results share memory with the argument")
	}
}

// Valid lists have the same encoding if and only if they are equivalent.
func TestCanonicalP11_2(t *testing.T) {
	r := rand.New(rand.NewSource(11))
	counts := map[bool]int{}
	for range 2000 {
		var l []api.Order
		for seq := range 1 + r.Intn(7) {
			x, y := string(rune('a'+r.Intn(5))), string(rune('f'+r.Intn(3)))
			l = append(l, []api.Order{ask(r.Intn(9), seq+1, x), ask(r.Intn(9), seq+1, y), post(r.Intn(9), seq+1, x, y), open(r.Intn(9), seq+1, x), closing(r.Intn(9), seq+1)}[r.Intn(12)%5])
		}
		m := slices.Clone(l)
		for range 1 + r.Intn(3) {
			i := r.Intn(len(m))
			j := min(i+1, len(m)-1)
			m[i], m[j] = m[j], m[i]
		}
		a, e := foata.Export(l)
		b, f := foata.Export(m)
		alike := clash.Alike(l, m)
		counts[alike]++
		if e != api.OK || f != api.OK || bytes.Equal(a, b) != alike {
			t.Fatal(l, m, e, f)
		}
		steps, e := foata.Import(a)
		if e != api.OK || !clash.Alike(foata.Lay(steps), l) {
			t.Fatal(l, steps, e)
		}
	}
	if counts[true] < 100 || counts[false] < 100 {
		t.Error(counts)
	}
}
