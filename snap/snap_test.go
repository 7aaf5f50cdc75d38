package snap_test

import (
	"bytes"
	"fmt"
	"math"
	"math/rand"
	"slices"
	"testing"

	"countinghouse/api"
	"countinghouse/book"
	"countinghouse/hold"
	"countinghouse/order"
	"countinghouse/pack"
	"countinghouse/snap"
)

const (
	top = math.MaxInt64
	low = math.MinInt64
)

func acct(name string, have, set, limit int64) api.Acct {
	return api.Acct{Name: name, Have: have, Set: set, Limit: limit}
}

func held(acct string, num int, sum int64) hold.Held {
	return hold.Held{Num: num, Acct: acct, Sum: sum}
}

func state(closed int, accts []api.Acct, holds ...hold.Held) snap.State {
	return snap.State{Accts: accts, Holds: holds, Closed: closed}
}

func accts(l ...api.Acct) []api.Acct { return l }

func twelve() []api.Acct {
	var l []api.Acct
	for i := range 12 {
		l = append(l, acct(string(rune('a'+i)), 0, 8, 10))
	}
	return l
}

func full() snap.State {
	s := state(1000, twelve())
	for _, a := range s.Accts {
		for k := range 8 {
			s.Holds = append(s.Holds, held(a.Name, 9992+k, 1))
		}
	}
	return s
}

func good() []snap.State {
	return []snap.State{
		{},
		{Closed: 1000},
		state(5, accts(acct("a", 0, 0, 0))),
		state(5, accts(acct("a", -5, 3, 8), acct("ab", 5, 5, 0)), held("a", 1, 1), held("a", 2003, 2), held("ab", 9999, 5)),
		state(0, accts(acct("0", -top, 0, top), acct("zzzzzzzz", top, top, 0)), held("zzzzzzzz", 7, top)),
		state(0, accts(acct("a", top, 0, 0), acct("b", top, 0, 0), acct("c", -top, 0, top), acct("d", -top, 0, top))),
		full(),
	}
}

// bad are states that are not valid; shown says whether their encoding shows it.
func bad() []struct {
	s     snap.State
	shown bool
} {
	thirteen := append(twelve(), acct("m", 0, 0, 0))
	for i := range thirteen {
		thirteen[i].Set = 0
	}
	nine := full()
	nine.Holds = slices.Insert(nine.Holds, 0, held("a", 1, 1))
	nine.Accts[0].Set = 9
	return []struct {
		s     snap.State
		shown bool
	}{
		{snap.State{Closed: -1}, true},
		{snap.State{Closed: 1001}, true},
		{state(0, thirteen), true},
		{state(0, accts(acct("A", 0, 0, 0))), true},
		{state(0, accts(acct("", 0, 0, 0))), true},
		{state(0, accts(acct("ninebytes", 0, 0, 0))), true},
		{state(0, accts(acct("b", 0, 0, 0), acct("a", 0, 0, 0))), true},
		{state(0, accts(acct("a", 0, 0, 0), acct("a", 0, 0, 0))), true},
		{state(0, accts(acct("a", 0, 0, -1))), true},
		{state(0, accts(acct("a", 0, 0, low))), true},
		{state(0, accts(acct("a", 0, -1, 5))), false},
		{state(0, accts(acct("a", 1, 0, 0))), true},
		{state(0, accts(acct("a", -5, 0, 4), acct("b", 5, 0, 0))), true},
		{state(0, accts(acct("a", -5, 3, 7), acct("b", 5, 0, 0)), held("a", 1, 3)), true},
		{state(0, accts(acct("a", -top, 2, top), acct("b", top, 0, 0)), held("a", 1, 2)), true},
		{state(0, accts(acct("a", low, 0, top), acct("b", top, 0, 0), acct("c", 1, 0, 0))), true},
		{state(0, accts(acct("a", top, 0, 0), acct("b", 1, 0, 0))), true},
		{state(0, accts(acct("a", low, 0, top), acct("b", low, 0, top))), true},
		{state(0, accts(acct("a", 0, 2, 5))), false},
		{state(0, accts(acct("a", 0, 2, 5)), held("a", 1, 3)), false},
		{state(0, accts(acct("a", 0, 0, 5)), held("b", 1, 3)), true},
		{state(0, nil, held("a", 1, 3)), true},
		{state(0, accts(acct("a", 0, 3, 5)), held("a", 0, 3)), true},
		{state(0, accts(acct("a", 0, 3, 5)), held("a", 10000, 3)), true},
		{state(0, accts(acct("a", 0, 3, 5)), held("a", -1, 3)), true},
		{state(0, accts(acct("a", 0, 3, 5)), held("a", 1, 3), held("a", 2, 0)), true},
		{state(0, accts(acct("a", 0, 3, 5)), held("a", 1, 4), held("a", 2, -1)), true},
		{state(0, accts(acct("a", 0, 3, 5)), held("a", 2, 1), held("a", 1, 2)), true},
		{state(0, accts(acct("a", 0, 3, 5)), held("a", 1, 1), held("a", 1, 2)), true},
		{state(0, accts(acct("a", 0, 1, 5), acct("b", 0, 2, 5)), held("b", 1, 2), held("a", 1, 1)), true},
		{state(0, accts(acct("a", 0, 0, top)), held("a", 1, top), held("a", 2, top)), true},
		{nine, true},
	}
}

// encode encodes any state, as the chapter says it of valid ones.
func encode(s snap.State) []byte {
	n := func(n int) []byte { return pack.Num(int64(n)) }
	b := append(n(s.Closed), n(len(s.Accts))...)
	for _, a := range s.Accts {
		b = slices.Concat(b, pack.Text(a.Name), pack.Num(a.Have), pack.Num(a.Limit))
	}
	b = append(b, n(len(s.Holds))...)
	for _, x := range s.Holds {
		b = slices.Concat(b, n(slices.IndexFunc(s.Accts, func(a api.Acct) bool { return a.Name == x.Acct })), n(x.Num), pack.Num(x.Sum))
	}
	return b
}

func refuses(t *testing.T, b []byte) {
	t.Helper()
	if s, e := snap.Read(b); e != api.ErrBytes || !snap.Same(s, snap.State{}) {
		t.Errorf("%v: %+v, %d", b, s, e)
	}
}

func TestRightAndEncodingP21_1(t *testing.T) {
	if b, e := snap.Bytes(snap.Of(book.New())); e != api.OK || !bytes.Equal(b, []byte{0, 0, 0}) {
		t.Error(b, e)
	}
	for i, s := range good() {
		b, e := snap.Bytes(s)
		if !snap.Right(s) || e != api.OK || !bytes.Equal(b, encode(s)) {
			t.Error(i, b, e)
		}
		if got, e := snap.Read(b); e != api.OK || !snap.Same(got, s) {
			t.Error(i, got, e)
		}
	}
	for i, x := range bad() {
		if b, e := snap.Bytes(x.s); snap.Right(x.s) || len(b) != 0 || e != api.ErrArg {
			t.Error(i, b, e)
		}
		if x.shown {
			refuses(t, encode(x.s))
		}
		if l := snap.Orders(x.s); len(l) != 0 {
			t.Error(i, l)
		}
	}
}

func TestReadAcceptsOnlyEncodingsP21_1(t *testing.T) {
	refuses(t, nil)
	for _, s := range good() {
		b := encode(s)
		refuses(t, append(slices.Clone(b), 0))
		for i := range b {
			refuses(t, b[:i])
			for v := range 256 {
				c := slices.Clone(b)
				c[i] = byte(v)
				got, e := snap.Read(c)
				if e != api.OK {
					refuses(t, c)
				} else if !snap.Right(got) || !bytes.Equal(encode(got), c) {
					t.Fatalf("%v: %+v", c, got)
				}
			}
		}
	}
	for _, b := range [][]byte{{0, 1, 0}, {0, 0, 1}, {0, 2, 2, 97, 0, 0, 1}, {0, 2, 2, 97, 0, 0, 2, 1, 2, 2}, {0, 2, 2, 97, 0, 10, 2, 2, 2, 2}, {0, 0, 2, 0, 2, 2}} {
		refuses(t, b)
	}
	refuses(t, append([]byte{0}, pack.Num(top)...))
	refuses(t, append([]byte{0, 0}, pack.Num(top)...))
}

func TestSameP21_1(t *testing.T) {
	l := good()
	for _, x := range bad() {
		l = append(l, x.s)
	}
	for i, a := range l {
		for j, b := range l {
			if snap.Same(a, b) != (i == j) {
				t.Error(i, j)
			}
		}
	}
	if !snap.Same(snap.State{}, snap.State{Accts: []api.Acct{}, Holds: []hold.Held{}}) {
		t.Error("nil and empty")
	}
}

func open(seq int, name string, limit int64) api.Order {
	return api.Order{Id: api.Id{Client: 9, Seq: seq}, Kind: api.Open, Acct: name, Sum: limit}
}

func pay(seq int, from, to string, sum int64) api.Order {
	return api.Order{Id: api.Id{Client: 9, Seq: seq}, Kind: api.Post, Period: 1000, Legs: []api.Leg{{Acct: from, Sum: -sum}, {Acct: to, Sum: sum}}}
}

func TestOrdersP21_1(t *testing.T) {
	for i, x := range []struct {
		s    snap.State
		want []api.Order
	}{
		{snap.State{}, nil},
		{snap.State{Closed: 7}, nil},
		{good()[3], []api.Order{open(1, "a", 8), open(2, "ab", 0), pay(3, "a", "ab", 5)}},
		{state(9, accts(acct("a", 5, 0, 0), acct("b", -7, 0, 7), acct("c", 3, 0, 0), acct("d", -1, 0, 4))),
			[]api.Order{open(1, "a", 0), open(2, "b", 7), open(3, "c", 0), open(4, "d", 4), pay(5, "b", "a", 5), pay(6, "b", "c", 2), pay(7, "d", "c", 1)}},
		{state(0, accts(acct("a", -2, 0, 2), acct("b", 0, 0, 1), acct("c", 1, 0, 0), acct("d", 1, 0, 0))),
			[]api.Order{open(1, "a", 2), open(2, "b", 1), open(3, "c", 0), open(4, "d", 0), pay(5, "a", "c", 1), pay(6, "a", "d", 1)}},
		{good()[4], []api.Order{open(1, "0", top), open(2, "zzzzzzzz", 0), pay(3, "0", "zzzzzzzz", top)}},
	} {
		got := snap.Orders(x.s)
		if !slices.EqualFunc(got, x.want, order.Same) {
			t.Errorf("%d: %+v", i, got)
		}
		for _, o := range got {
			if !order.Right(o) {
				t.Error(i, o)
			}
		}
	}
}

func anyBook(r *rand.Rand) *book.Book {
	b := book.New()
	name := func() string { return string(rune('a' + r.Intn(5))) }
	for seq := range 80 {
		o := api.Order{Id: api.Id{Client: 2, Seq: seq + 1}}
		x, y, sum := name(), name(), int64(1+r.Intn(9))
		switch r.Intn(8) {
		case 0, 1:
			o.Kind, o.Acct, o.Sum = api.Open, x, sum*10
		case 2, 3:
			o.Kind, o.Period, o.Legs = api.Post, 900, []api.Leg{{Acct: x, Sum: -sum}, {Acct: y, Sum: sum}}
		case 4, 5:
			o.Kind, o.Acct, o.Sum = api.Hold, x, sum
		case 6:
			o.Kind, o.Acct, o.Peer, o.Sum, o.Hold, o.Period = api.Capture, x, y, 1, 2001+r.Intn(seq+1), 900
		case 7:
			o.Kind, o.Period = api.Close, 1+r.Intn(800)
		}
		b.Do(o)
	}
	return b
}

func TestStateOfBookP21_2(t *testing.T) {
	r := rand.New(rand.NewSource(21))
	for range 300 {
		b := anyBook(r)
		s := snap.Of(b)
		if !snap.Right(s) || !slices.Equal(s.Accts, b.Accts()) || !slices.Equal(s.Holds, b.Holds()) || s.Closed != b.Closed() {
			t.Fatal(s)
		}
		bytes, e := snap.Bytes(s)
		if got, f := snap.Read(bytes); e != api.OK || f != api.OK || !snap.Same(got, s) {
			t.Fatal(s, got, e, f)
		}
		replies, c := book.Fold(snap.Orders(s))
		for i, reply := range replies {
			if reply.Err != api.OK {
				t.Fatal(s, i, reply)
			}
		}
		want := slices.Clone(s.Accts)
		for i := range want {
			want[i].Set = 0
		}
		if !slices.Equal(c.Accts(), want) {
			t.Fatal(c.Accts(), want)
		}
	}
	if s := snap.Of(nil); !snap.Same(s, snap.State{}) {
		t.Error(s)
	}
}

func TestTwelveAccountsP21_2(t *testing.T) {
	r := rand.New(rand.NewSource(22))
	for range 300 {
		var s snap.State
		var rest int64
		for i := range 12 {
			have := int64(r.Uint64()) >> (6 + r.Intn(50))
			if i == 11 {
				have = -rest
			}
			rest += have
			s.Accts = append(s.Accts, acct(fmt.Sprint("a", string(rune('a'+i))), have, 0, top))
		}
		replies, b := book.Fold(snap.Orders(s))
		if !slices.Equal(b.Accts(), s.Accts) || len(replies) > 23 {
			t.Fatal(s, b.Accts())
		}
	}
}

func TestNewMemoryP21_1(t *testing.T) {
	s := good()[3]
	for _, o := range snap.Orders(s) {
		clear(o.Legs)
	}
	b := anyBook(rand.New(rand.NewSource(23)))
	x := snap.Of(b)
	clear(x.Accts)
	clear(x.Holds)
	if !snap.Same(s, good()[3]) || snap.Same(x, snap.Of(b)) {
		t.Error("memory is shared")
	}
}
