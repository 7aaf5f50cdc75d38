package post_test

import (
	"bytes"
	"math"
	"math/rand"
	"slices"
	"testing"

	"countinghouse/api"
	"countinghouse/log"
	"countinghouse/pack"
	"countinghouse/post"
)

func at(rep, num int) api.Inst { return api.Inst{Rep: rep, Num: num} }

func ask(seq int) api.Order {
	return api.Order{Id: api.Id{Client: 1, Seq: seq}, Kind: api.Ask, Acct: "a"}
}

func entry(o api.Order, deps ...api.Inst) api.Entry { return api.Entry{Order: o, Deps: deps} }

func none(deps ...api.Inst) api.Entry { return api.Entry{None: true, Deps: deps} }

func many(n int) []api.Inst {
	var l []api.Inst
	for k := range n {
		l = append(l, at(5, 9001+k))
	}
	return l
}

func biggest() api.Order {
	o := api.Order{Id: api.Id{Client: 9, Seq: 999}, Kind: api.Post, Period: 1000, Note: "twenty bytes of note"}
	for i, name := range []string{"abcdefgh", "abcdefgi", "abcdefgj", "abcdefgk", "abcdefgl", "abcdefgm"} {
		o.Legs = append(o.Legs, api.Leg{Acct: name, Sum: -1<<63 + int64(i)})
	}
	return o
}

// slotted are messages whose fields form a slot, bare ones those that have an entry and no State.
func slotted() []api.Msg {
	return []api.Msg{
		{From: 0, To: 1, Kind: api.Prep, Inst: at(0, 1)},
		{From: 6, To: 0, Kind: api.Refused, Inst: at(6, 10000), Ballot: 1000000},
		{From: 2, To: 1, Kind: api.Got, Inst: at(2, 1)},
		{From: 2, To: 1, Kind: api.PrepOK, Inst: at(2, 1), Ballot: 9, State: api.Heard, By: 9, Entry: entry(ask(1), at(2, 2))},
		{From: 2, To: 1, Kind: api.PrepOK, Inst: at(2, 1), Ballot: 9, State: api.Agreed, By: 0, Entry: none()},
		{From: 2, To: 1, Kind: api.Pre, Inst: at(2, 1), Ballot: 0, State: api.Settled, By: 0, Entry: none(at(2, 2))},
		{From: 2, To: 6, Kind: api.Commit, Inst: at(2, 1), Ballot: 1000000, State: api.Settled, By: 1000000, Entry: entry(biggest(), many(100)...)},
	}
}

func bare() []api.Msg {
	return []api.Msg{
		{From: 0, To: 1, Kind: api.Pre, Inst: at(0, 1), Entry: entry(ask(1))},
		{From: 0, To: 1, Kind: api.Acc, Inst: at(0, 1), Ballot: 1000000, Entry: none()},
		{From: 5, To: 4, Kind: api.Commit, Inst: at(0, 1), Ballot: 17, Entry: entry(biggest(), many(100)...)},
		{From: 5, To: 4, Kind: api.Got, Inst: at(0, 1), Ballot: 17, Entry: none(at(0, 2))},
	}
}

// bad are messages that are not valid; shown says whether their encoding shows it.
func bad() []struct {
	m     api.Msg
	shown bool
} {
	type row = struct {
		m     api.Msg
		shown bool
	}
	var l []row
	for _, base := range []api.Msg{slotted()[3], bare()[0], slotted()[0]} {
		for _, change := range []func(m *api.Msg){
			func(m *api.Msg) { m.From = -1 },
			func(m *api.Msg) { m.From = 7 },
			func(m *api.Msg) { m.To = -1 },
			func(m *api.Msg) { m.To = 7 },
			func(m *api.Msg) { m.To = m.From },
			func(m *api.Msg) { m.Kind = 0 },
			func(m *api.Msg) { m.Kind = 10 },
			func(m *api.Msg) { m.Kind = -1 },
			func(m *api.Msg) { m.Inst.Rep = 7 },
			func(m *api.Msg) { m.Inst.Num = 0 },
			func(m *api.Msg) { m.Ballot = -1 },
			func(m *api.Msg) { m.Ballot = 1000001 },
			func(m *api.Msg) { m.By = 10 },
			func(m *api.Msg) { m.By = -1 },
			func(m *api.Msg) { m.State = 4 },
			func(m *api.Msg) { m.State = -1 },
		} {
			m := base
			change(&m)
			l = append(l, row{m, true})
		}
		for _, e := range []api.Entry{entry(ask(0)), none(base.Inst), none(at(5, 2), at(5, 1)), none(many(101)...), {None: true, Order: ask(1)}} {
			m := base
			m.Entry = e
			l = append(l, row{m, false})
		}
	}
	heard := slotted()[0]
	heard.State = api.Heard
	by := bare()[1]
	by.By = 1
	return append(l, row{api.Msg{}, true}, row{heard, true}, row{by, false})
}

// encode encodes a message in the first or the second way.
func encode(m api.Msg, first bool) []byte {
	n := func(n int) []byte { return pack.Num(int64(n)) }
	b := slices.Concat(n(m.From), n(m.To), n(m.Kind))
	if first {
		one, _ := log.Bytes(api.Record{Inst: m.Inst, Slot: api.Slot{Ballot: m.Ballot, State: m.State, By: m.By, Entry: m.Entry}})
		return slices.Concat(b, n(1), pack.Text(string(one)))
	}
	one, _ := log.Bytes(api.Record{Inst: m.Inst, Slot: api.Slot{State: api.Settled, Entry: m.Entry}})
	return slices.Concat(b, n(0), n(m.Ballot), pack.Text(string(one)))
}

func refuses(t *testing.T, b []byte) {
	t.Helper()
	if m, e := post.Read(b); e != api.ErrBytes || !post.Same(m, api.Msg{}) {
		t.Errorf("%v: %+v, %d", b, m, e)
	}
}

func TestRightAndEncodingP17_1P17_2(t *testing.T) {
	for k, m := range append(slotted(), bare()...) {
		b, e := post.Bytes(m)
		if !post.Right(m) || e != api.OK || !bytes.Equal(b, encode(m, k < len(slotted()))) {
			t.Errorf("%+v: %v, %d", m, b, e)
		}
		if got, e := post.Read(b); e != api.OK || !post.Same(got, m) {
			t.Errorf("%+v: %+v, %d", m, got, e)
		}
		// A message with an entry and a State is another one without the State.
		if k < 3 || k >= len(slotted()) {
			refuses(t, encode(m, k >= len(slotted())))
		}
		refuses(t, append(b, 0))
	}
	for _, x := range bad() {
		if b, e := post.Bytes(x.m); post.Right(x.m) || len(b) != 0 || e != api.ErrArg {
			t.Errorf("%+v: %v, %d", x.m, b, e)
		}
		if x.shown {
			refuses(t, encode(x.m, true))
		}
	}
}

func TestReadAcceptsOnlyEncodingsP17_2(t *testing.T) {
	refuses(t, nil)
	for _, m := range append(slotted()[:6], bare()[0], bare()[1], bare()[3]) {
		b, _ := post.Bytes(m)
		for i := range b {
			refuses(t, b[:i])
			for v := range 256 {
				c := slices.Clone(b)
				c[i] = byte(v)
				got, e := post.Read(c)
				if e != api.OK {
					refuses(t, c)
				} else if again, e := post.Bytes(got); e != api.OK || !bytes.Equal(again, c) {
					t.Errorf("%v: %+v", c, got)
				}
			}
		}
	}
	// The record of the second way is Settled, with Ballot and By 0.
	for _, s := range []api.Slot{{State: api.Agreed, Entry: none()}, {State: api.Settled, Ballot: 1, Entry: none()}, {State: api.Settled, Ballot: 1, By: 1, Entry: none()}, {}} {
		one, e := log.Bytes(api.Record{Inst: at(0, 1), Slot: s})
		if e != api.OK {
			t.Fatal(e)
		}
		refuses(t, slices.Concat([]byte{0, 2, 4, 0, 2}, pack.Text(string(one))))
	}
}

func TestSameP17_1(t *testing.T) {
	l := append(slotted(), bare()...)
	for _, x := range bad()[:40] {
		l = append(l, x.m)
	}
	for i, a := range l {
		for j, b := range l {
			if post.Same(a, b) != (i == j) {
				t.Error(i, j, a, b)
			}
		}
	}
	m := bare()[0]
	m.Entry.Deps, m.Entry.Order.Legs = []api.Inst{}, []api.Leg{}
	if !post.Same(m, bare()[0]) {
		t.Error("nil and empty")
	}
}

func sameAll(a, b []api.Msg) bool { return slices.EqualFunc(a, b, post.Same) }

func has(t *testing.T, b *post.Bag, want ...api.Msg) {
	t.Helper()
	if got := b.All(); !sameAll(got, want) || b.Len() != len(want) {
		t.Errorf("%+v, %d, not %+v", got, b.Len(), want)
	}
	for k, m := range want {
		if got, ok := b.Look(k); !ok || !post.Same(got, m) {
			t.Error(k, got, ok)
		}
	}
	for _, k := range []int{-1, len(want), math.MaxInt, math.MinInt} {
		if got, ok := b.Look(k); ok || !post.Same(got, api.Msg{}) {
			t.Error(k, got, ok)
		}
	}
}

func TestBagP17_1(t *testing.T) {
	l := slotted()
	b := post.New()
	has(t, b)
	if n := b.Put(nil); n != 0 {
		t.Error(n)
	}
	if n := b.Put([]api.Msg{l[0], {}, l[1], bad()[0].m, l[2]}); n != 2 {
		t.Error(n)
	}
	has(t, b, l[0], l[1], l[2])
	if !b.Twice(0) {
		t.Error("twice")
	}
	has(t, b, l[0], l[1], l[2], l[0])
	for _, k := range []int{-1, 4, math.MaxInt, math.MinInt} {
		if m, ok := b.Take(k); ok || !post.Same(m, api.Msg{}) || b.Twice(k) {
			t.Error(k, m, ok)
		}
	}
	if m, ok := b.Take(1); !ok || !post.Same(m, l[1]) {
		t.Error(m, ok)
	}
	has(t, b, l[0], l[2], l[0])
	if m, ok := b.Take(2); !ok || !post.Same(m, l[0]) {
		t.Error(m, ok)
	}
	if m, ok := b.Take(0); !ok || !post.Same(m, l[0]) {
		t.Error(m, ok)
	}
	has(t, b, l[2])
}

func TestForP17_1(t *testing.T) {
	b := post.New()
	b.Put(append(slotted(), bare()...))
	for to, want := range map[int][]int{0: {1}, 1: {0, 2, 3, 4, 5, 7, 8}, 2: nil, 4: {9, 10}, 6: {6}, -1: nil, 99: nil} {
		if got := b.For(to); !slices.Equal(got, want) {
			t.Error(to, got)
		}
	}
}

func TestFullBagP17_1(t *testing.T) {
	l := slotted()
	b := post.New()
	var all []api.Msg
	for range 399 {
		all = append(all, l[0])
	}
	if n := b.Put(all); n != 0 || b.Len() != 399 {
		t.Error(n, b.Len())
	}
	if n := b.Put([]api.Msg{{}, l[1], l[2], {}}); n != 3 || b.Len() != 400 {
		t.Error(n, b.Len())
	}
	if n := b.Put([]api.Msg{l[2]}); n != 1 || b.Twice(0) || b.Len() != 400 {
		t.Error(n, b.Len())
	}
	if m, ok := b.Look(399); !ok || !post.Same(m, l[1]) {
		t.Error(m, ok)
	}
	b.Take(0)
	if !b.Twice(398) || b.Len() != 400 {
		t.Error(b.Len())
	}
}

func TestNilBagP17_1(t *testing.T) {
	var b *post.Bag
	if n := b.Put(slotted()); n != len(slotted()) {
		t.Error(n)
	}
	has(t, b)
	if m, ok := b.Take(0); ok || !post.Same(m, api.Msg{}) || b.Twice(0) || len(b.For(1)) != 0 {
		t.Error(m, ok)
	}
}

func TestNewMemoryP17_1(t *testing.T) {
	b := post.New()
	l := []api.Msg{slotted()[3]}
	b.Put(l)
	b.Twice(0)
	clear(l[0].Entry.Deps)
	clear(b.All()[0].Entry.Deps)
	m, _ := b.Look(0)
	clear(m.Entry.Deps)
	has(t, b, slotted()[3], slotted()[3])
	m, _ = b.Take(0)
	clear(m.Entry.Deps)
	has(t, b, slotted()[3])
}

func TestAnySequenceP17_1(t *testing.T) {
	r := rand.New(rand.NewSource(17))
	pool := append(append(slotted(), bare()...), api.Msg{}, bad()[3].m)
	b := post.New()
	var want []api.Msg
	for range 3000 {
		k := r.Intn(len(want)+3) - 1
		there := k >= 0 && k < len(want)
		switch r.Intn(4) {
		case 0, 1:
			if len(want) == 60 {
				continue
			}
			m := pool[r.Intn(len(pool))]
			n := b.Put([]api.Msg{m})
			if post.Right(m) != (n == 0) {
				t.Fatal(m, n)
			}
			if n == 0 {
				want = append(want, m)
			}
		case 2:
			if got, ok := b.Take(k); ok != there || ok && !post.Same(got, want[k]) {
				t.Fatal(k, got, ok)
			}
			if there {
				want = slices.Delete(want, k, k+1)
			}
		case 3:
			if len(want) < 30 {
				if b.Twice(k) != there {
					t.Fatal(k)
				}
				if there {
					want = append(want, want[k])
				}
			}
		}
		if b.Len() != len(want) || !sameAll(b.All(), want) {
			t.Fatal(b.All(), want)
		}
	}
}
