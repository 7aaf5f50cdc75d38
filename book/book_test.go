package book_test

import (
	"fmt"
	"math"
	"math/rand"
	"slices"
	"testing"

	"countinghouse/api"
	"countinghouse/book"
	"countinghouse/hold"
)

const top = math.MaxInt64

func id(seq int) api.Id { return api.Id{Client: 2, Seq: seq} }

func open(seq int, acct string, limit int64) api.Order {
	return api.Order{Id: id(seq), Kind: api.Open, Acct: acct, Sum: limit}
}

func post(seq, period int, from, to string, sum int64) api.Order {
	return api.Order{Id: id(seq), Kind: api.Post, Period: period, Legs: []api.Leg{{Acct: from, Sum: -sum}, {Acct: to, Sum: sum}}}
}

func holding(seq int, acct string, sum int64) api.Order {
	return api.Order{Id: id(seq), Kind: api.Hold, Acct: acct, Sum: sum}
}

func capture(seq, period int, acct, peer string, num int, sum int64) api.Order {
	return api.Order{Id: id(seq), Kind: api.Capture, Acct: acct, Peer: peer, Hold: num, Sum: sum, Period: period}
}

func release(seq int, acct string, num int) api.Order {
	return api.Order{Id: id(seq), Kind: api.Release, Acct: acct, Hold: num}
}

func closing(seq, period int) api.Order {
	return api.Order{Id: id(seq), Kind: api.Close, Period: period}
}

func ask(seq int, acct string) api.Order {
	return api.Order{Id: id(seq), Kind: api.Ask, Acct: acct}
}

func fails(e api.Errno) api.Reply { return api.Reply{Err: e} }

type line struct {
	o    api.Order
	want api.Reply
}

// story is orders and the replies to them, one after the other.
func story() []line {
	return []line{
		{ask(1, "a"), fails(api.ErrNone)},
		{open(2, "a", 0), api.Reply{}},
		{holding(3, "a", 5), fails(api.ErrOwes)},
		{open(4, "a", 9), fails(api.ErrThere)},
		{open(5, "A", 9), fails(api.ErrArg)},
		{open(6, "b", 20), api.Reply{}},
		{post(7, 5, "b", "a", 10), api.Reply{}},
		{ask(8, "a"), api.Reply{Have: 10}},
		{ask(8, "b"), api.Reply{Have: -10}},
		{post(9, 5, "b", "a", 11), fails(api.ErrOwes)},
		{post(9, 5, "b", "z", 1), fails(api.ErrNone)},
		{holding(10, "a", 6), api.Reply{Have: 10, Set: 6, Num: 2010}},
		{holding(10, "a", 1), fails(api.ErrThere)},
		{holding(11, "a", 5), fails(api.ErrOwes)},
		{holding(11, "z", 5), fails(api.ErrNone)},
		{holding(11, "a", 4), api.Reply{Have: 10, Set: 10, Num: 2011}},
		{holding(10, "b", 2), api.Reply{Have: -10, Set: 2, Num: 2010}},
		{post(12, 5, "a", "b", 1), fails(api.ErrOwes)},
		{capture(13, 5, "a", "b", 2010, 7), fails(api.ErrRange)},
		{capture(13, 5, "a", "b", 2012, 1), fails(api.ErrNone)},
		{capture(13, 5, "a", "z", 2010, 1), fails(api.ErrNone)},
		{capture(13, 5, "a", "b", 2010, 4), api.Reply{Have: 6, Set: 4}},
		{capture(13, 5, "a", "b", 2010, 4), fails(api.ErrNone)},
		{release(14, "a", 2010), fails(api.ErrNone)},
		{release(14, "a", 2011), api.Reply{Have: 6}},
		{release(14, "z", 2011), fails(api.ErrNone)},
		{closing(15, 7), api.Reply{Num: 7}},
		{closing(16, 7), fails(api.ErrClosed)},
		{closing(16, 6), fails(api.ErrClosed)},
		{post(17, 7, "a", "b", 1), fails(api.ErrClosed)},
		{post(17, 1, "y", "z", 1), fails(api.ErrClosed)},
		{capture(17, 7, "b", "a", 2010, 1), fails(api.ErrClosed)},
		{capture(17, 7, "b", "a", 9, 1), fails(api.ErrClosed)},
		{post(17, 8, "a", "b", 1), api.Reply{}},
		{capture(17, 8, "b", "a", 2010, 2), api.Reply{Have: -7}},
		{closing(18, 1000), api.Reply{Num: 1000}},
		{closing(18, 1001), fails(api.ErrArg)},
		{post(18, 1000, "a", "b", 1), fails(api.ErrClosed)},
		{post(18, 1001, "a", "b", 1), fails(api.ErrArg)},
		{api.Order{}, fails(api.ErrArg)},
		{api.Order{Id: id(1), Kind: 8}, fails(api.ErrArg)},
		{api.Order{Id: id(1000), Kind: api.Ask, Acct: "a"}, fails(api.ErrArg)},
		{ask(19, "a"), api.Reply{Have: 7}},
		{ask(19, "b"), api.Reply{Have: -7}},
		{ask(19, "c"), fails(api.ErrNone)},
		{open(20, "c", top), api.Reply{}},
	}
}

func TestStoryP9_1P9_2(t *testing.T) {
	b := book.New()
	var l []api.Order
	var want []api.Reply
	for i, x := range story() {
		before := b.Copy()
		if got := b.Do(x.o); got != x.want {
			t.Errorf("%d: %+v: %+v, not %+v", i, x.o, got, x.want)
		}
		if x.want.Err != api.OK && !book.Same(before, b) {
			t.Error(i, "an error changed something")
		}
		total(t, b)
		l, want = append(l, x.o), append(want, x.want)
	}
	accts := []api.Acct{{Name: "a", Have: 7}, {Name: "b", Have: -7, Limit: 20}, {Name: "c", Limit: top}}
	if !slices.Equal(b.Accts(), accts) || len(b.Holds()) != 0 || b.Closed() != 1000 {
		t.Error(b.Accts(), b.Holds(), b.Closed())
	}
	replies, folded := book.Fold(l)
	if !slices.Equal(replies, want) || !book.Same(b, folded) {
		t.Error(replies, folded)
	}
}

func total(t *testing.T, b *book.Book) {
	t.Helper()
	var sum int64
	for _, a := range b.Accts() {
		sum += a.Have
		if a.Have-a.Set < -a.Limit {
			t.Error("overdrawn", a)
		}
	}
	if sum != 0 {
		t.Error("the total is", sum)
	}
}

func TestFullP9_1(t *testing.T) {
	b := book.New()
	for i := range 12 {
		if r := b.Do(open(i+1, fmt.Sprint("a", i), top)); r != (api.Reply{}) {
			t.Error(i, r)
		}
	}
	if r := b.Do(open(13, "b", 0)); r != fails(api.ErrFull) {
		t.Error(r)
	}
	for i := range 8 {
		if r := b.Do(holding(i+1, "a1", 1)); r != (api.Reply{Set: int64(i + 1), Num: 2001 + i}) {
			t.Error(i, r)
		}
	}
	if r := b.Do(holding(9, "a1", 1)); r != fails(api.ErrFull) {
		t.Error(r)
	}
	if r := b.Do(post(10, 1, "a2", "a3", top)); r != (api.Reply{}) {
		t.Error(r)
	}
	if r := b.Do(post(11, 1, "a4", "a3", 1)); r != fails(api.ErrOver) {
		t.Error(r)
	}
	odd := api.Order{Id: id(12), Kind: api.Post, Period: 1, Legs: []api.Leg{{Acct: "a1", Sum: 5}, {Acct: "a2", Sum: -4}}}
	if r := b.Do(odd); r != fails(api.ErrWeigh) {
		t.Error(r)
	}
}

func TestNewAndNilP9_1(t *testing.T) {
	b := book.New()
	if len(b.Accts()) != 0 || len(b.Holds()) != 0 || b.Closed() != 0 {
		t.Error(b.Accts(), b.Holds(), b.Closed())
	}
	var none *book.Book
	if r := none.Do(ask(1, "a")); r != fails(api.ErrArg) {
		t.Error(r)
	}
	if len(none.Accts()) != 0 || len(none.Holds()) != 0 || none.Closed() != 0 || none.Copy() != nil {
		t.Error("nil")
	}
	if l, b := book.Fold(nil); len(l) != 0 || !book.Same(b, book.New()) {
		t.Error(l, b)
	}
}

func TestSameAndCopyP9_1(t *testing.T) {
	start := []api.Order{open(1, "a", 5), open(2, "b", 5), holding(3, "a", 2)}
	_, a := book.Fold(start)
	_, b := book.Fold(start)
	if !book.Same(a, b) || !book.Same(a, a) || !book.Same(nil, nil) || book.Same(a, nil) || book.Same(nil, a) || book.Same(book.New(), nil) || book.Same(nil, book.New()) {
		t.Error("Same")
	}
	for i, o := range []api.Order{open(4, "c", 0), post(4, 1, "a", "b", 1), holding(4, "b", 1), release(4, "a", 2003), closing(4, 1), capture(4, 1, "a", "b", 2003, 1)} {
		c := a.Copy()
		if !book.Same(a, c) {
			t.Error(i, "a copy differs")
		}
		if r := c.Do(o); r.Err != api.OK {
			t.Error(i, r)
		}
		if book.Same(a, c) || book.Same(c, a) || !book.Same(a, b) {
			t.Error(i, o)
		}
	}
	// Two holds for one are not the same, though as much is reserved.
	_, c := book.Fold([]api.Order{open(1, "a", 5), open(2, "b", 5), holding(3, "a", 1), holding(4, "a", 1)})
	_, d := book.Fold([]api.Order{open(1, "a", 6), open(2, "b", 5), holding(3, "a", 2)})
	if book.Same(a, c) || book.Same(a, d) {
		t.Error("Same")
	}
}

func TestBookKeepsNothingGivenP9_1(t *testing.T) {
	b := book.New()
	b.Do(open(1, "a", 5))
	b.Do(open(2, "b", 5))
	o := post(3, 1, "a", "b", 2)
	b.Do(o)
	clear(o.Legs)
	b.Do(holding(4, "a", 1))
	b.Accts()[0].Have = 99
	b.Holds()[0].Sum = 99
	if !slices.Equal(b.Accts(), []api.Acct{{Name: "a", Have: -2, Set: 1, Limit: 5}, {Name: "b", Have: 2, Limit: 5}}) {
		t.Error(b.Accts())
	}
	if !slices.Equal(b.Holds(), []hold.Held{{Num: 2004, Acct: "a", Sum: 1}}) {
		t.Error(b.Holds())
	}
}

func TestAnyOrdersP9_2(t *testing.T) {
	r := rand.New(rand.NewSource(9))
	name := func() string { return string(rune('a' + r.Intn(3))) }
	done := map[int]int{}
	for range 300 {
		b := book.New()
		for range 80 {
			seq, sum, period := 1+r.Intn(4), int64(r.Intn(8)), 1+r.Intn(6)
			o := []api.Order{
				open(seq, name(), sum), post(seq, period, name(), name(), sum), holding(seq, name(), sum),
				capture(seq, period, name(), name(), 2001+r.Intn(4), sum), release(seq, name(), 2001+r.Intn(4)),
				closing(seq, 1+r.Intn(2)*r.Intn(2)*r.Intn(2)*period), ask(seq, name()),
			}[r.Intn(7)]
			before := b.Copy()
			reply := b.Do(o)
			total(t, b)
			if reply.Err != api.OK && (!book.Same(b, before) || reply != fails(reply.Err)) {
				t.Fatal(o, reply)
			}
			if reply.Err == api.OK {
				done[o.Kind]++
			}
		}
	}
	for kind := 1; kind <= 7; kind++ {
		if done[kind] < 5 {
			t.Error(kind, "was done", done[kind], "times")
		}
	}
}
