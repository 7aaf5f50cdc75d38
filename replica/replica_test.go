package replica_test

import (
	"fmt"
	"math"
	"slices"
	"testing"

	"countinghouse/api"
	"countinghouse/book"
	"countinghouse/disk"
	"countinghouse/log"
	"countinghouse/order"
	"countinghouse/replica"
	"countinghouse/runner"
)

func at(rep, num int) api.Inst { return api.Inst{Rep: rep, Num: num} }

func ats(l ...api.Inst) []api.Inst { return l }

func ask(seq int, acct string) api.Order {
	return api.Order{Id: api.Id{Client: 1, Seq: seq}, Kind: api.Ask, Acct: acct}
}

func entry(o api.Order, deps ...api.Inst) api.Entry { return api.Entry{Order: o, Deps: deps} }

func none(deps ...api.Inst) api.Entry { return api.Entry{None: true, Deps: deps} }

func slot(ballot, state, by int, e api.Entry) api.Slot {
	return api.Slot{Ballot: ballot, State: state, By: by, Entry: e}
}

func msg(from, to, kind int, i api.Inst, ballot int, e api.Entry) api.Msg {
	return api.Msg{From: from, To: to, Kind: kind, Inst: i, Ballot: ballot, Entry: e}
}

func plain(from, to, kind int, i api.Inst, ballot int) api.Msg {
	return msg(from, to, kind, i, ballot, api.Entry{})
}

func prepOK(from, to int, i api.Inst, s api.Slot) api.Msg {
	return api.Msg{From: from, To: to, Kind: api.PrepOK, Inst: i, Ballot: s.Ballot, State: s.State, By: s.By, Entry: s.Entry}
}

func mustNew(t *testing.T, me, n int, d *disk.Disk) *replica.Replica {
	t.Helper()
	r, e := replica.New(me, n, d)
	if e != api.OK {
		t.Fatal(e)
	}
	return r
}

// stored returns a disk with the records.
func stored(t *testing.T, l ...api.Record) *disk.Disk {
	t.Helper()
	d := disk.New(65536)
	if e := log.Put(d, l); e != api.OK {
		t.Fatal(e)
	}
	return d
}

func rec(i api.Inst, s api.Slot) api.Record { return api.Record{Inst: i, Slot: s} }

// seen is m without what its Kind does not have.
func seen(m api.Msg) api.Msg {
	if m.Kind == api.Commit || m.Kind == api.Got {
		m.Ballot = 0
	}
	if m.Kind != api.PrepOK {
		m.State, m.By = 0, 0
	}
	switch m.Kind {
	case api.AccOK, api.Prep, api.Refused, api.Got:
		m.Entry = api.Entry{}
	}
	return m
}

func sameMsg(a, b api.Msg) bool {
	a, b = seen(a), seen(b)
	return a.From == b.From && a.To == b.To && a.Kind == b.Kind && a.Inst == b.Inst && a.Ballot == b.Ballot &&
		a.State == b.State && a.By == b.By && runner.Same(a.Entry, b.Entry)
}

func sent(t *testing.T, what string, got []api.Msg, e api.Errno, want ...api.Msg) {
	t.Helper()
	if e != api.OK || !slices.EqualFunc(got, want, sameMsg) {
		t.Errorf("%s: error %d\n got %+v\nwant %+v", what, e, got, want)
	}
}

func take(t *testing.T, r *replica.Replica, m api.Msg, want ...api.Msg) {
	t.Helper()
	got, e := r.Take(m)
	sent(t, "Take", got, e, want...)
}

func tick(t *testing.T, r *replica.Replica, want ...api.Msg) {
	t.Helper()
	got, e := r.Tick()
	sent(t, "Tick", got, e, want...)
}

func submit(t *testing.T, r *replica.Replica, o api.Order, i api.Inst, want ...api.Msg) {
	t.Helper()
	got, j, e := r.Submit(o)
	sent(t, "Submit", got, e, want...)
	if i != j {
		t.Error("Submit", j, "not", i)
	}
}

func slots(t *testing.T, r *replica.Replica, want ...api.Record) {
	t.Helper()
	if got := r.Slots(); !log.Same(got, want) {
		t.Errorf("slots\n got %+v\nwant %+v", got, want)
	}
}

func leads(t *testing.T, r *replica.Replica, want ...api.Inst) {
	t.Helper()
	if got := r.Leads(); !slices.Equal(got, want) {
		t.Error("leads", got, "not", want)
	}
}

func listed(t *testing.T, r *replica.Replica, want ...api.Order) {
	t.Helper()
	if got := r.List(); !slices.EqualFunc(got, want, order.Same) {
		t.Error("list", got, "not", want)
	}
}

func TestMajorityP16_1(t *testing.T) {
	for n, want := range map[int]int{0: 1, 1: 1, 2: 2, 3: 2, 4: 3, 5: 3, 6: 4, 7: 4, 100: 51, math.MaxInt: 1 << 62} {
		if got := replica.Majority(n); got != want {
			t.Error(n, got)
		}
	}
}

func TestUnionP16_1(t *testing.T) {
	a := ats(at(1, 2), at(0, 5), at(1, 2))
	b := ats(at(0, 4), at(2, 1), at(0, 5))
	want := ats(at(0, 4), at(0, 5), at(1, 2), at(2, 1))
	if got := replica.Union(a, b); !slices.Equal(got, want) {
		t.Error(got)
	}
	if got := replica.Union(b, a); !slices.Equal(got, want) {
		t.Error(got)
	}
	if !slices.Equal(a, ats(at(1, 2), at(0, 5), at(1, 2))) {
		t.Error("the argument has changed")
	}
	if got := replica.Union(a, nil); !slices.Equal(got, ats(at(0, 5), at(1, 2))) {
		t.Error(got)
	}
	if got := replica.Union(nil, ats()); len(got) != 0 {
		t.Error(got)
	}
	sorted := ats(at(0, 1), at(0, 2))
	got := replica.Union(sorted, nil)
	got[0].Num = 99
	if sorted[0].Num != 1 {
		t.Error("the result shares memory with the argument")
	}
}

func TestChooseP16_1(t *testing.T) {
	a, b, c := entry(ask(1, "a")), entry(ask(1, "a"), at(1, 1)), entry(ask(1, "a"), at(0, 9), at(1, 1))
	blank := slot(5, api.Blank, 0, api.Entry{})
	for n, x := range []struct {
		l     []api.Slot
		state int
		e     api.Entry
	}{
		{nil, api.Blank, api.Entry{}},
		{[]api.Slot{blank, blank}, api.Blank, api.Entry{}},
		{[]api.Slot{slot(9, api.Agreed, 9, a), slot(0, api.Settled, 0, b), slot(9, api.Settled, 9, c)}, api.Agreed, b},
		{[]api.Slot{blank, slot(0, api.Settled, 0, none())}, api.Agreed, none()},
		{[]api.Slot{slot(8, api.Agreed, 8, a), slot(9, api.Agreed, 9, b), slot(9, api.Agreed, 9, c)}, api.Agreed, b},
		{[]api.Slot{slot(8, api.Heard, 8, a), slot(8, api.Agreed, 8, b)}, api.Agreed, b},
		{[]api.Slot{slot(9, api.Heard, 0, a), slot(9, api.Agreed, 0, none())}, api.Agreed, none()},
		{[]api.Slot{slot(9, api.Heard, 9, a), slot(8, api.Agreed, 8, b)}, api.Heard, a},
		{[]api.Slot{slot(8, api.Agreed, 8, b), slot(9, api.Heard, 9, a), slot(9, api.Heard, 0, c)}, api.Heard, c},
		{[]api.Slot{slot(0, api.Heard, 0, b), slot(7, api.Heard, 0, b)}, api.Agreed, b},
		{[]api.Slot{slot(0, api.Heard, 0, b)}, api.Agreed, b},
		{[]api.Slot{slot(9, api.Heard, 9, b), slot(9, api.Heard, 9, b)}, api.Heard, b},
		{[]api.Slot{slot(9, api.Heard, 0, b), slot(9, api.Heard, 9, b)}, api.Heard, b},
		{[]api.Slot{slot(0, api.Heard, 0, b), blank}, api.Heard, b},
		{[]api.Slot{blank, slot(0, api.Heard, 0, b), slot(0, api.Heard, 0, entry(ask(1, "a"), at(0, 9)))}, api.Heard, c},
		{[]api.Slot{slot(0, api.Heard, 0, a), slot(0, api.Heard, 0, b)}, api.Heard, b},
	} {
		state, e := replica.Choose(x.l)
		if state != x.state || !runner.Same(e, x.e) {
			t.Error(n, state, e)
		}
		if len(e.Deps) > 0 {
			e.Deps[0] = at(6, 6)
		}
	}
	post := api.Order{Id: api.Id{Client: 1, Seq: 1}, Kind: api.Post, Period: 1, Legs: []api.Leg{{Acct: "a", Sum: -1}, {Acct: "b", Sum: 1}}}
	for _, state := range []int{api.Heard, api.Agreed, api.Settled} {
		_, e := replica.Choose([]api.Slot{slot(9, state, 9, entry(post))})
		clear(e.Order.Legs)
	}
	if post.Legs[0].Sum != -1 || !slices.Equal(c.Deps, ats(at(0, 9), at(1, 1))) || !slices.Equal(b.Deps, ats(at(1, 1))) {
		t.Error("an argument has changed")
	}
}

func TestNewP16_2(t *testing.T) {
	broken := disk.New(100)
	broken.Break()
	for n, x := range []struct {
		me, n int
		d     *disk.Disk
		e     api.Errno
	}{
		{0, 3, disk.New(100), api.OK}, {2, 3, disk.New(0), api.OK}, {4, 5, disk.New(100), api.OK}, {6, 7, disk.New(100), api.OK},
		{3, 3, disk.New(100), api.ErrArg}, {-1, 3, disk.New(100), api.ErrArg}, {7, 7, disk.New(100), api.ErrArg},
		{0, 1, disk.New(100), api.ErrArg}, {0, 4, disk.New(100), api.ErrArg}, {0, 9, disk.New(100), api.ErrArg}, {0, -3, disk.New(100), api.ErrArg}, {0, 0, nil, api.ErrArg},
		{0, 3, broken, api.ErrDown}, {0, 3, nil, api.ErrDown}, {0, 4, broken, api.ErrArg},
	} {
		r, e := replica.New(x.me, x.n, x.d)
		if e != x.e || (r == nil) != (e != api.OK) {
			t.Error(n, r, e)
		}
	}
	r := mustNew(t, 0, 3, disk.New(100))
	slots(t, r)
	leads(t, r)
	listed(t, r)
	tick(t, r)
}

// Three replicas, one order: Pre, two PreOK, Commit.
func TestExampleP16_2(t *testing.T) {
	o := api.Order{Id: api.Id{Client: 1, Seq: 1}, Kind: api.Open, Acct: "a", Sum: 5}
	i := at(0, 1)
	x := entry(o)
	a, b := mustNew(t, 0, 3, disk.New(65536)), mustNew(t, 1, 3, disk.New(65536))
	submit(t, a, o, i, msg(0, 1, api.Pre, i, 0, x), msg(0, 2, api.Pre, i, 0, x))
	slots(t, a, rec(i, slot(0, api.Heard, 0, x)))
	leads(t, a, i)
	take(t, b, msg(0, 1, api.Pre, i, 0, x), msg(1, 0, api.PreOK, i, 0, x))
	slots(t, b, rec(i, slot(0, api.Heard, 0, x)))
	leads(t, b)
	take(t, a, msg(1, 0, api.PreOK, i, 0, x))
	take(t, a, msg(1, 0, api.PreOK, i, 0, x))
	slots(t, a, rec(i, slot(0, api.Heard, 0, x)))
	take(t, a, msg(2, 0, api.PreOK, i, 0, x), msg(0, 1, api.Commit, i, 0, x), msg(0, 2, api.Commit, i, 0, x))
	slots(t, a, rec(i, slot(0, api.Settled, 0, x)))
	leads(t, a)
	listed(t, a, o)
	take(t, b, msg(0, 1, api.Commit, i, 0, x), plain(1, 0, api.Got, i, 0))
	take(t, b, msg(0, 1, api.Commit, i, 0, x), plain(1, 0, api.Got, i, 0))
	listed(t, b, o)
	_, want := book.Fold([]api.Order{o})
	for _, r := range []*replica.Replica{a, b} {
		if reply, told := r.Told(o.Id); !told || reply != (api.Reply{}) || !book.Same(r.Book(), want) || len(r.Waits()) != 0 {
			t.Error(reply, told)
		}
		if _, told := r.Told(api.Id{Client: 1, Seq: 2}); told {
			t.Error("told what was never asked")
		}
	}
	// It is announced until both have answered.
	tick(t, a, msg(0, 1, api.Commit, i, 0, x), msg(0, 2, api.Commit, i, 0, x))
	take(t, a, plain(1, 0, api.Got, i, 0))
	tick(t, a, msg(0, 2, api.Commit, i, 0, x))
	take(t, a, plain(2, 0, api.Got, i, 0))
	tick(t, a)
	take(t, a, plain(2, 0, api.Got, i, 0))
	tick(t, a)
	tick(t, b)
}

func TestSubmitErrorsP16_2(t *testing.T) {
	d := disk.New(65536)
	r := mustNew(t, 0, 3, d)
	for n, o := range []api.Order{{}, ask(0, "a"), ask(1, "A")} {
		if out, i, e := r.Submit(o); len(out) != 0 || i != (api.Inst{}) || e != api.ErrArg {
			t.Error(n, out, i, e)
		}
	}
	slots(t, r)
	for k := range 101 {
		if _, i, e := r.Submit(ask(k+1, "a")); e != api.OK || i != at(0, k+1) {
			t.Fatal(k, i, e)
		}
	}
	if s := r.Slots(); len(s) != 101 || len(s[100].Slot.Entry.Deps) != 100 {
		t.Error(len(s))
	}
	fails := func(o api.Order, want api.Errno) {
		t.Helper()
		was, ledWas := r.Slots(), r.Leads()
		if out, i, e := r.Submit(o); len(out) != 0 || i != (api.Inst{}) || e != want {
			t.Error(out, i, e)
		}
		slots(t, r, was...)
		leads(t, r, ledWas...)
	}
	fails(ask(200, "a"), api.ErrFull)
	submit(t, r, ask(200, "b"), at(0, 102), msg(0, 1, api.Pre, at(0, 102), 0, entry(ask(200, "b"))), msg(0, 2, api.Pre, at(0, 102), 0, entry(ask(200, "b"))))
	d.Break()
	fails(ask(200, "a"), api.ErrFull)
	fails(ask(201, "c"), api.ErrDown)
	fails(ask(0, "c"), api.ErrArg)

	r = mustNew(t, 0, 3, stored(t, rec(at(0, 9999), slot(0, api.Settled, 0, none())), rec(at(1, 10000), slot(0, api.Settled, 0, none()))))
	if _, i, e := r.Submit(ask(1, "a")); e != api.OK || i != at(0, 10000) {
		t.Error(i, e)
	}
	fails(ask(2, "a"), api.ErrFull)

	r = mustNew(t, 0, 3, disk.New(20))
	fails(ask(1, "a"), api.ErrFull)
	slots(t, r)
}

func TestDependenciesP16_2(t *testing.T) {
	post := api.Order{Id: api.Id{Client: 2, Seq: 9}, Kind: api.Post, Period: 1, Legs: []api.Leg{{Acct: "b", Sum: -1}, {Acct: "a", Sum: 1}}}
	r := mustNew(t, 1, 3, stored(t,
		rec(at(0, 1), slot(0, api.Heard, 0, entry(ask(1, "a")))),
		rec(at(0, 2), slot(9, api.Agreed, 9, none())),
		rec(at(0, 3), slot(9, api.Blank, 0, api.Entry{})),
		rec(at(1, 7), slot(9, api.Settled, 0, entry(ask(2, "a")))),
		rec(at(2, 1), slot(9, api.Agreed, 9, entry(ask(3, "b")))),
		rec(at(2, 2), slot(9, api.Settled, 9, entry(ask(4, "c")))),
	))
	x := entry(post, at(0, 1), at(1, 7), at(2, 1))
	submit(t, r, post, at(1, 8), msg(1, 0, api.Pre, at(1, 8), 0, x), msg(1, 2, api.Pre, at(1, 8), 0, x))
	// Those of a Pre are given ones, and what is in conflict here.
	y := entry(ask(5, "c"), at(0, 2), at(0, 9))
	z := entry(ask(5, "c"), at(0, 2), at(0, 9), at(2, 2))
	take(t, r, msg(2, 1, api.Pre, at(2, 3), 0, y), msg(1, 2, api.PreOK, at(2, 3), 0, z))
	// An Inst does not depend on itself.
	take(t, r, msg(2, 1, api.Pre, at(2, 3), 8, entry(ask(5, "c"))), msg(1, 2, api.PreOK, at(2, 3), 8, entry(ask(5, "c"), at(2, 2))))
	close := api.Order{Id: api.Id{Client: 3, Seq: 9}, Kind: api.Close, Period: 1}
	all := entry(close, at(0, 1), at(1, 7), at(1, 8), at(2, 1), at(2, 2), at(2, 3))
	submit(t, r, close, at(1, 9), msg(1, 0, api.Pre, at(1, 9), 0, all), msg(1, 2, api.Pre, at(1, 9), 0, all))
	// The same Id is in conflict, whatever it asks.
	again := entry(ask(4, "z"), at(1, 9), at(2, 2))
	submit(t, r, ask(4, "z"), at(1, 10), msg(1, 0, api.Pre, at(1, 10), 0, again), msg(1, 2, api.Pre, at(1, 10), 0, again))
}

func TestNotAcceptableP16_2(t *testing.T) {
	good := entry(ask(1, "a"))
	var many []api.Inst
	for k := range 101 {
		many = append(many, at(2, k+1))
	}
	var l []api.Msg
	for kind := api.Pre; kind <= api.Got; kind++ {
		m := msg(1, 0, kind, at(1, 1), 5, good)
		if kind == api.PrepOK {
			m.State = api.Heard
		}
		for _, change := range []func(m *api.Msg){
			func(m *api.Msg) { m.Kind += 9 },
			func(m *api.Msg) { m.Kind -= 9 },
			func(m *api.Msg) { m.To = 1 },
			func(m *api.Msg) { m.To = -1 },
			func(m *api.Msg) { m.From = 0 },
			func(m *api.Msg) { m.From = 3 },
			func(m *api.Msg) { m.From = -1 },
			func(m *api.Msg) { m.Inst.Rep = 3 },
			func(m *api.Msg) { m.Inst.Rep = -1 },
			func(m *api.Msg) { m.Inst.Num = 0 },
			func(m *api.Msg) { m.Inst.Num = 10001 },
			func(m *api.Msg) { m.Ballot = -1 },
			func(m *api.Msg) { m.Ballot = 1000001 },
		} {
			c := m
			change(&c)
			l = append(l, c)
		}
		if kind == api.AccOK || kind == api.Prep || kind == api.Refused || kind == api.Got {
			continue
		}
		for _, e := range []api.Entry{
			entry(ask(0, "a")), entry(ask(1, "a"), at(1, 1)), entry(ask(1, "a"), at(2, 1), at(0, 1)), entry(ask(1, "a"), many...),
			{None: true, Order: ask(1, "a")}, entry(ask(1, "a"), at(7, 1)),
		} {
			c := m
			c.Entry = e
			l = append(l, c)
		}
	}
	l = append(l, msg(1, 0, api.Pre, at(1, 1), 5, none()), msg(1, 0, api.PreOK, at(1, 1), 5, none()), api.Msg{})
	for _, s := range []api.Slot{slot(5, api.Heard, 6, good), slot(5, api.Heard, -1, good), slot(5, 4, 0, good), slot(5, -1, 0, good), slot(5, api.Blank, 1, api.Entry{}), slot(5, api.Blank, 0, good)} {
		l = append(l, prepOK(1, 0, at(1, 1), s))
	}
	r := mustNew(t, 0, 3, disk.New(65536))
	for _, m := range l {
		if out, e := r.Take(m); len(out) != 0 || e != api.ErrArg {
			t.Errorf("%+v: %v, %d", m, out, e)
		}
	}
	slots(t, r)
	leads(t, r)
	tick(t, r)
}

// What a Kind does not have is not looked at.
func TestNotLookedAtP16_2(t *testing.T) {
	r := mustNew(t, 0, 3, disk.New(65536))
	i := at(1, 1)
	for _, kind := range []int{api.AccOK, api.Refused, api.Got} {
		m := msg(1, 0, kind, i, 5, api.Entry{Deps: ats(i, i)})
		m.State, m.By = 77, -5
		take(t, r, m)
	}
	m := msg(1, 0, api.Prep, i, 5, entry(ask(0, "A")))
	m.State, m.By = 77, -5
	take(t, r, m, prepOK(0, 1, i, slot(5, api.Blank, 0, api.Entry{})))
	m = msg(1, 0, api.Pre, i, 5, entry(ask(1, "a")))
	m.State, m.By = -7, 99
	take(t, r, m, msg(0, 1, api.PreOK, i, 5, entry(ask(1, "a"))))
}

// The effects of Pre, Acc, Prep and Commit on every kind of slot.
func TestEffectsP16_2(t *testing.T) {
	i := at(1, 1)
	a, b := entry(ask(1, "a")), entry(ask(2, "b"), at(2, 5))
	blank := api.Entry{}
	pre := func(ballot int, e api.Entry) api.Msg { return msg(1, 0, api.Pre, i, ballot, e) }
	acc := func(ballot int, e api.Entry) api.Msg { return msg(1, 0, api.Acc, i, ballot, e) }
	prep := func(ballot int) api.Msg { return plain(1, 0, api.Prep, i, ballot) }
	commit := func(e api.Entry) api.Msg { return msg(1, 0, api.Commit, i, 0, e) }
	heard := func(ballot int, e api.Entry) []api.Msg { return []api.Msg{msg(0, 1, api.PreOK, i, ballot, e)} }
	agreed := func(ballot int) []api.Msg { return []api.Msg{plain(0, 1, api.AccOK, i, ballot)} }
	refused := func(ballot int) []api.Msg { return []api.Msg{plain(0, 1, api.Refused, i, ballot)} }
	settled := func(e api.Entry) []api.Msg { return []api.Msg{msg(0, 1, api.Commit, i, 0, e)} }
	reported := func(s api.Slot) []api.Msg { return []api.Msg{prepOK(0, 1, i, s)} }
	got := []api.Msg{plain(0, 1, api.Got, i, 0)}
	for n, x := range []struct {
		was   api.Slot
		m     api.Msg
		want  []api.Msg
		after api.Slot
	}{
		{slot(9, api.Settled, 3, a), pre(20, b), settled(a), slot(9, api.Settled, 3, a)},
		{slot(9, api.Settled, 3, a), acc(2, b), settled(a), slot(9, api.Settled, 3, a)},
		{slot(9, api.Settled, 3, none()), prep(20), settled(none()), slot(9, api.Settled, 3, none())},
		{slot(9, api.Settled, 3, a), commit(b), got, slot(9, api.Settled, 3, a)},
		{slot(9, api.Agreed, 8, a), pre(8, a), refused(9), slot(9, api.Agreed, 8, a)},
		{slot(9, api.Blank, 0, blank), acc(8, a), refused(9), slot(9, api.Blank, 0, blank)},
		{slot(9, api.Heard, 0, a), prep(8), refused(9), slot(9, api.Heard, 0, a)},
		{slot(0, api.Blank, 0, blank), pre(0, b), heard(0, b), slot(0, api.Heard, 0, b)},
		{slot(9, api.Blank, 0, blank), pre(9, b), heard(9, b), slot(9, api.Heard, 9, b)},
		{slot(9, api.Agreed, 9, a), pre(9, a), nil, slot(9, api.Agreed, 9, a)},
		{slot(9, api.Agreed, 8, a), pre(9, b), heard(9, b), slot(9, api.Heard, 9, b)},
		{slot(9, api.Agreed, 9, none()), pre(10, a), heard(10, a), slot(10, api.Heard, 10, a)},
		{slot(9, api.Heard, 9, b), pre(9, entry(ask(2, "b"), at(2, 6))), heard(9, b), slot(9, api.Heard, 9, b)},
		{slot(9, api.Heard, 9, b), pre(9, a), heard(9, a), slot(9, api.Heard, 9, a)},
		{slot(9, api.Heard, 8, b), pre(9, entry(ask(2, "b"))), heard(9, entry(ask(2, "b"))), slot(9, api.Heard, 9, entry(ask(2, "b")))},
		{slot(0, api.Blank, 0, blank), acc(0, none()), agreed(0), slot(0, api.Agreed, 0, none())},
		{slot(9, api.Heard, 9, a), acc(9, b), agreed(9), slot(9, api.Agreed, 9, b)},
		{slot(9, api.Agreed, 9, b), acc(9, b), agreed(9), slot(9, api.Agreed, 9, b)},
		{slot(9, api.Agreed, 9, b), acc(17, a), agreed(17), slot(17, api.Agreed, 17, a)},
		{slot(9, api.Agreed, 8, b), prep(9), reported(slot(9, api.Agreed, 8, b)), slot(9, api.Agreed, 8, b)},
		{slot(9, api.Heard, 8, b), prep(17), reported(slot(17, api.Heard, 8, b)), slot(17, api.Heard, 8, b)},
		{slot(0, api.Blank, 0, blank), prep(17), reported(slot(17, api.Blank, 0, blank)), slot(17, api.Blank, 0, blank)},
		{slot(0, api.Blank, 0, blank), prep(0), reported(slot(0, api.Blank, 0, blank)), slot(0, api.Blank, 0, blank)},
		{slot(0, api.Blank, 0, blank), commit(b), got, slot(0, api.Settled, 0, b)},
		{slot(17, api.Blank, 0, blank), commit(none()), got, slot(17, api.Settled, 0, none())},
		{slot(17, api.Agreed, 9, a), commit(b), got, slot(17, api.Settled, 9, b)},
	} {
		d := disk.New(65536)
		if x.was.State != api.Blank || x.was.Ballot > 0 {
			d = stored(t, rec(i, x.was))
		}
		r := mustNew(t, 0, 3, d)
		out, e := r.Take(x.m)
		sent(t, fmt.Sprint(n), out, e, x.want...)
		var after []api.Record
		if x.after.State != api.Blank || x.after.Ballot > 0 {
			after = append(after, rec(i, x.after))
		}
		slots(t, r, after...)
		slots(t, mustNew(t, 0, 3, d), after...)
		leads(t, r)
	}
}

func TestNotLedP16_2(t *testing.T) {
	i := at(0, 1)
	x := entry(ask(1, "a"))
	r := mustNew(t, 0, 3, stored(t, rec(i, slot(0, api.Heard, 0, x))))
	take(t, r, msg(1, 0, api.PreOK, i, 0, x))
	take(t, r, msg(2, 0, api.PreOK, i, 0, x))
	take(t, r, plain(1, 0, api.AccOK, i, 0))
	take(t, r, plain(2, 0, api.AccOK, i, 0))
	take(t, r, prepOK(1, 0, i, slot(0, api.Heard, 0, x)))
	take(t, r, plain(1, 0, api.Refused, i, 80))
	take(t, r, plain(1, 0, api.Got, i, 0))
	slots(t, r, rec(i, slot(0, api.Heard, 0, x)))
	leads(t, r)
	// What was refused to nobody is not remembered.
	tick(t, r)
	tick(t, r)
	tick(t, r, plain(0, 1, api.Prep, i, 8), plain(0, 2, api.Prep, i, 8))
}

func TestNilReplicaP16_1(t *testing.T) {
	var r *replica.Replica
	out, i, e := r.Submit(ask(1, "a"))
	more, f := r.Take(plain(1, 0, api.Got, at(0, 1), 0))
	last, g := r.Tick()
	if len(out)+len(more)+len(last) != 0 || i != (api.Inst{}) || e != api.ErrArg || f != api.ErrArg || g != api.ErrArg {
		t.Error(out, i, e, more, f, last, g)
	}
	slots(t, r)
	leads(t, r)
	listed(t, r)
	if reply, told := r.Told(api.Id{}); told || reply != (api.Reply{}) || r.Book() != nil || len(r.Waits()) != 0 {
		t.Error("nil")
	}
}
