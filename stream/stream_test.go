package stream_test

import (
	"fmt"
	"math"
	"math/rand"
	"slices"
	"testing"

	"countinghouse/api"
	"countinghouse/book"
	"countinghouse/clash"
	"countinghouse/stream"
)

func id(seq int) api.Id { return api.Id{Client: 0, Seq: seq} }

func open(seq int, acct string, limit int64) api.Order {
	return api.Order{Id: id(seq), Kind: api.Open, Acct: acct, Sum: limit}
}

func post(seq int, from, to string, sum int64) api.Order {
	return api.Order{Id: id(seq), Kind: api.Post, Period: 5, Legs: []api.Leg{{Acct: from, Sum: -sum}, {Acct: to, Sum: sum}}}
}

func holding(seq int, acct string, sum int64) api.Order {
	return api.Order{Id: id(seq), Kind: api.Hold, Acct: acct, Sum: sum}
}

func capture(seq int, acct, peer string, num int, sum int64) api.Order {
	return api.Order{Id: id(seq), Kind: api.Capture, Acct: acct, Peer: peer, Hold: num, Sum: sum, Period: 5}
}

func release(seq int, acct string, num int) api.Order {
	return api.Order{Id: id(seq), Kind: api.Release, Acct: acct, Hold: num}
}

func closing(seq, period int) api.Order {
	return api.Order{Id: id(seq), Kind: api.Close, Period: period}
}

func ask(seq int, acct string) api.Order {
	return api.Order{Id: id(seq), Kind: api.Ask, Acct: acct}
}

func event(seq, kind int, have, set int64) stream.Event {
	return stream.Event{Id: id(seq), Kind: kind, Have: have, Set: set}
}

func story() []api.Order {
	return []api.Order{
		ask(1, "a"), open(2, "a", 5), open(3, "b", 9), open(4, "a", 5), holding(5, "a", 3), holding(6, "a", 3),
		post(7, "b", "a", 4), post(8, "b", "a", 6), capture(9, "a", "b", 5, 2), holding(10, "b", 1), closing(11, 4),
		release(12, "b", 10), release(13, "b", 10), ask(14, "b"), closing(15, 5), post(16, "b", "a", 1), api.Order{},
		{Id: id(17), Kind: api.Ask, Acct: "b", Sum: 5}, ask(14, "b"), open(18, "c", 0),
	}
}

func eventsOfA() []stream.Event {
	return []stream.Event{event(2, api.Open, 0, 0), event(5, api.Hold, 0, 3), event(7, api.Post, 4, 3), event(9, api.Capture, 2, 0)}
}

func eventsOfB() []stream.Event {
	return []stream.Event{
		event(3, api.Open, 0, 0), event(7, api.Post, -4, 0), event(9, api.Capture, -2, 0), event(10, api.Hold, -2, 1),
		event(12, api.Release, -2, 0), event(14, api.Ask, -2, 0), event(14, api.Ask, -2, 0),
	}
}

func TestExampleP12_1(t *testing.T) {
	got := stream.Events([]api.Order{open(1, "a", 5), holding(2, "a", 3)}, "a")
	if !slices.Equal(got, []stream.Event{event(1, api.Open, 0, 0), event(2, api.Hold, 0, 3)}) {
		t.Error(got)
	}
}

func TestEventsP12_1(t *testing.T) {
	d := stream.New()
	b := book.New()
	for i, o := range story() {
		if got, want := d.Do(o), b.Do(o); got != want {
			t.Errorf("%d: %+v, not %+v", i, got, want)
		}
	}
	for acct, want := range map[string][]stream.Event{
		"a": eventsOfA(), "b": eventsOfB(), "c": {event(18, api.Open, 0, 0)}, "d": nil, "": nil, "A": nil,
	} {
		if got := stream.Events(story(), acct); !slices.Equal(got, want) {
			t.Errorf("%q: %v", acct, got)
		}
		if got := d.Of(acct); !slices.Equal(got, want) {
			t.Errorf("%q: %v", acct, got)
		}
	}
	if !book.Same(d.Book(), b) {
		t.Error("the book differs")
	}
	d.Book().Do(open(19, "z", 0))
	d.Of("a")[0].Have = 99
	if !book.Same(d.Book(), b) || !slices.Equal(d.Of("a"), eventsOfA()) {
		t.Error("a result is not a copy")
	}
	if l := stream.Events(nil, "a"); len(l) != 0 {
		t.Error(l)
	}
}

func TestReadP12_1(t *testing.T) {
	d := stream.New()
	for i, x := range []struct {
		reader, acct string
		e            api.Errno
	}{
		{"r", "a", api.OK}, {"r", "a", api.ErrThere}, {"r", "b", api.ErrThere}, {"r", "B", api.ErrArg},
		{"R", "a", api.ErrArg}, {"", "a", api.ErrArg}, {"s", "", api.ErrArg}, {"ninebytes", "a", api.ErrArg}, {"s", "ninebytes", api.ErrArg},
		{"a", "nowhere", api.OK},
	} {
		if e := d.Read(x.reader, x.acct); e != x.e {
			t.Error(i, e)
		}
	}
	for i := range 8 {
		if e := d.Read(fmt.Sprint(i), "a"); e != api.OK {
			t.Error(i, e)
		}
	}
	for reader, want := range map[string]api.Errno{"z": api.ErrFull, "r": api.ErrThere, "Z": api.ErrArg} {
		if e := d.Read(reader, "a"); e != want {
			t.Error(reader, e)
		}
	}
	if n, e := d.At("z"); n != 0 || e != api.ErrNone {
		t.Error(n, e)
	}
}

func polled(t *testing.T, d *stream.Desk, reader string, most int, want []stream.Event) {
	t.Helper()
	if got, e := d.Poll(reader, most); !slices.Equal(got, want) || e != api.OK {
		t.Error(reader, most, got, e)
	}
}

func at(t *testing.T, d *stream.Desk, reader string, want int) {
	t.Helper()
	if got, e := d.At(reader); got != want || e != api.OK {
		t.Error(reader, got, e)
	}
}

func TestReaderP12_1(t *testing.T) {
	d := stream.New()
	d.Read("early", "a")
	for _, o := range story() {
		d.Do(o)
	}
	d.Read("late", "a")
	d.Read("other", "b")
	all := eventsOfA()
	for _, r := range []string{"early", "late"} {
		at(t, d, r, 0)
		polled(t, d, r, 4, all)
		polled(t, d, r, math.MaxInt, all)
		polled(t, d, r, 3, all[:3])
		polled(t, d, r, 0, nil)
		polled(t, d, r, -1, nil)
		polled(t, d, r, math.MinInt, nil)
		at(t, d, r, 0)
	}
	steps := []struct {
		take bool
		n    int
		e    api.Errno
		at   int
	}{
		{true, 0, api.OK, 0}, {true, 3, api.OK, 3}, {true, 2, api.ErrRange, 3}, {true, -1, api.ErrRange, 3}, {true, math.MinInt, api.ErrRange, 3},
		{true, math.MaxInt, api.ErrRange, 3}, {false, 4, api.ErrRange, 3}, {false, -1, api.ErrRange, 3}, {false, math.MaxInt, api.ErrRange, 3},
		{false, math.MinInt, api.ErrRange, 3}, {false, 0, api.OK, 3}, {false, 1, api.OK, 2}, {true, 2, api.OK, 4}, {true, 1, api.ErrRange, 4}, {true, 0, api.OK, 4},
		{false, 4, api.OK, 0}, {false, 1, api.ErrRange, 0}, {true, 1, api.OK, 1},
	}
	for i, x := range steps {
		do := d.Back
		if x.take {
			do = d.Take
		}
		if e := do("early", x.n); e != x.e {
			t.Error(i, e)
		}
		at(t, d, "early", x.at)
		polled(t, d, "early", 2, all[x.at:min(4, x.at+2)])
	}
	at(t, d, "late", 0)
	polled(t, d, "other", 9, eventsOfB())
	l, _ := d.Poll("early", 9)
	l[0].Have = 99
	polled(t, d, "early", 9, all[1:])
}

func TestNoReaderP12_1(t *testing.T) {
	d := stream.New()
	var none *stream.Desk
	for want, d := range map[api.Errno]*stream.Desk{api.ErrNone: d, api.ErrArg: none} {
		l, e := d.Poll("r", 5)
		n, f := d.At("r")
		if len(l) != 0 || e != want || n != 0 || f != want || d.Take("r", 0) != want || d.Back("r", -1) != want || d.Take("r", -1) != want {
			t.Error(want, l, e, n, f)
		}
	}
	if e := none.Read("r", "a"); e != api.ErrArg {
		t.Error(e)
	}
	if r := none.Do(ask(1, "a")); r != (api.Reply{Err: api.ErrArg}) {
		t.Error(r)
	}
	if len(none.Of("a")) != 0 || none.Book() != nil {
		t.Error("nil")
	}
}

func anyOrder(r *rand.Rand, seq int) api.Order {
	p := r.Perm(3)
	x, y, sum := string(rune('a'+p[0])), string(rune('a'+p[1])), int64(1+r.Intn(4))
	switch r.Intn(10) {
	case 0:
		return closing(seq, 1+r.Intn(5))
	case 1, 2:
		return open(seq, x, 9)
	case 3, 4:
		return post(seq, x, y, sum)
	case 5, 6:
		return holding(seq, x, sum)
	case 7:
		return capture(seq, x, y, 1+r.Intn(12), sum)
	case 8:
		return release(seq, x, 1+r.Intn(12))
	}
	return ask(seq, x)
}

func TestEquivalentListsP12_2(t *testing.T) {
	r := rand.New(rand.NewSource(12))
	for range 200 {
		l := []api.Order{open(1, "a", 9), open(2, "b", 9), open(3, "c", 9)}
		for seq := 4; seq < 16; seq++ {
			l = append(l, anyOrder(r, seq))
		}
		m := l
		for range 50 {
			if next, ok := clash.Swap(m, r.Intn(len(m)-1)); ok {
				m = next
			}
		}
		for _, acct := range []string{"a", "b", "c"} {
			if !slices.Equal(stream.Events(l, acct), stream.Events(m, acct)) {
				t.Fatal(l, m)
			}
		}
	}
}

func TestEachEventOnceP12_2(t *testing.T) {
	r := rand.New(rand.NewSource(13))
	for range 100 {
		d := stream.New()
		d.Read("r", "a")
		var l []api.Order
		var got []stream.Event
		for seq := range 60 {
			l = append(l, anyOrder(r, seq+1))
			d.Do(l[seq])
			if r.Intn(3) > 0 {
				continue
			}
			next, e := d.Poll("r", r.Intn(4))
			if e != api.OK || d.Take("r", len(next)) != api.OK {
				t.Fatal(e)
			}
			got = append(got, next...)
		}
		next, _ := d.Poll("r", math.MaxInt)
		if got = append(got, next...); !slices.Equal(got, stream.Events(l, "a")) {
			t.Fatal(got)
		}
	}
}
