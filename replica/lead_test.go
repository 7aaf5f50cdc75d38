package replica_test

import (
	"testing"

	"countinghouse/api"
	"countinghouse/disk"
	"countinghouse/replica"
)

// led is a replica 0 of n that has submitted ask(1, "a") at 0.1.
func led(t *testing.T, n int) *replica.Replica {
	t.Helper()
	r := mustNew(t, 0, n, disk.New(65536))
	if _, _, e := r.Submit(ask(1, "a")); e != api.OK {
		t.Fatal(e)
	}
	return r
}

// toAll returns m to all n replicas but those that are named.
func toAll(n int, m api.Msg, but ...int) []api.Msg {
	var l []api.Msg
next:
	for to := range n {
		for _, k := range append(but, m.From) {
			if k == to {
				continue next
			}
		}
		m.To = to
		l = append(l, m)
	}
	return l
}

var own = at(0, 1)

func TestDifferentDepsP16_2(t *testing.T) {
	r := led(t, 3)
	x, y, z := entry(ask(1, "a"), at(2, 2)), entry(ask(1, "a"), at(1, 7)), entry(ask(1, "a"), at(1, 7), at(2, 2))
	take(t, r, msg(2, 0, api.PreOK, own, 0, x))
	take(t, r, msg(1, 0, api.PreOK, own, 0, y), toAll(3, msg(0, 0, api.Acc, own, 0, z))...)
	slots(t, r, rec(own, slot(0, api.Agreed, 0, z)))
	leads(t, r, own)
	// Answers to what was asked before count no more.
	take(t, r, msg(1, 0, api.PreOK, own, 0, y))
	take(t, r, plain(1, 0, api.AccOK, own, 8))
	take(t, r, prepOK(1, 0, own, slot(0, api.Heard, 0, y)))
	tick(t, r, toAll(3, msg(0, 0, api.Acc, own, 0, z))...)
	take(t, r, plain(2, 0, api.AccOK, own, 0), toAll(3, msg(0, 0, api.Commit, own, 0, z))...)
	slots(t, r, rec(own, slot(0, api.Settled, 0, z)))
	leads(t, r)
	take(t, r, plain(1, 0, api.AccOK, own, 0))
	// It waits for two Insts that nobody knows here.
	listed(t, r)
	if l := r.Waits(); len(l) != 1 || l[0] != own {
		t.Error(l)
	}
	take(t, r, msg(1, 0, api.Commit, at(1, 7), 0, none()), plain(0, 1, api.Got, at(1, 7), 0))
	take(t, r, msg(1, 0, api.Commit, at(2, 2), 0, entry(ask(2, "a"))), plain(0, 1, api.Got, at(2, 2), 0))
	listed(t, r, ask(2, "a"), ask(1, "a"))
}

func TestMajorityAtTickP16_2(t *testing.T) {
	r := led(t, 5)
	x, y := entry(ask(1, "a")), entry(ask(1, "a"), at(3, 3))
	tick(t, r, toAll(5, msg(0, 0, api.Pre, own, 0, x))...)
	take(t, r, msg(3, 0, api.PreOK, own, 0, y))
	tick(t, r, toAll(5, msg(0, 0, api.Pre, own, 0, x), 3)...)
	take(t, r, msg(1, 0, api.PreOK, own, 0, x))
	slots(t, r, rec(own, slot(0, api.Heard, 0, x)))
	tick(t, r, toAll(5, msg(0, 0, api.Acc, own, 0, y))...)
	slots(t, r, rec(own, slot(0, api.Agreed, 0, y)))
	take(t, r, plain(4, 0, api.AccOK, own, 0))
	tick(t, r, toAll(5, msg(0, 0, api.Acc, own, 0, y), 4)...)
	take(t, r, plain(4, 0, api.AccOK, own, 0))
	slots(t, r, rec(own, slot(0, api.Agreed, 0, y)))
	take(t, r, plain(2, 0, api.AccOK, own, 0), toAll(5, msg(0, 0, api.Commit, own, 0, y))...)
	slots(t, r, rec(own, slot(0, api.Settled, 0, y)))
}

// All have reported the same, so that it is committed, though somebody asks for it by now.
func TestUnanimousAlthoughAskedP16_2(t *testing.T) {
	r := led(t, 3)
	x := entry(ask(1, "a"))
	take(t, r, msg(1, 0, api.PreOK, own, 0, x))
	take(t, r, plain(2, 0, api.Prep, own, 10), prepOK(0, 2, own, slot(10, api.Heard, 0, x)))
	leads(t, r, own)
	take(t, r, msg(2, 0, api.PreOK, own, 0, x), toAll(3, msg(0, 0, api.Commit, own, 0, x))...)
	slots(t, r, rec(own, slot(10, api.Settled, 0, x)))
}

// Nothing is proposed with a ballot that is followed no more.
func TestGreaterBallotP16_2(t *testing.T) {
	for _, byTick := range []bool{true, false} {
		r := led(t, 3)
		x, y := entry(ask(1, "a")), entry(ask(1, "a"), at(1, 1))
		take(t, r, msg(1, 0, api.PreOK, own, 0, y))
		take(t, r, plain(2, 0, api.Prep, own, 10), prepOK(0, 2, own, slot(10, api.Heard, 0, x)))
		leads(t, r, own)
		if byTick {
			tick(t, r)
		} else {
			take(t, r, msg(2, 0, api.PreOK, own, 0, x))
		}
		leads(t, r)
		slots(t, r, rec(own, slot(10, api.Heard, 0, x)))
	}
}

func TestRefusedP16_2(t *testing.T) {
	r := led(t, 3)
	x := entry(ask(1, "a"))
	take(t, r, plain(1, 0, api.Refused, own, 0))
	leads(t, r, own)
	take(t, r, plain(1, 0, api.Refused, own, 17))
	leads(t, r)
	take(t, r, msg(1, 0, api.PreOK, own, 0, x))
	take(t, r, msg(2, 0, api.PreOK, own, 0, x))
	slots(t, r, rec(own, slot(0, api.Heard, 0, x)))
	tick(t, r)
	tick(t, r)
	tick(t, r, toAll(3, plain(0, 0, api.Prep, own, 24))...)
	leads(t, r, own)
	slots(t, r, rec(own, slot(24, api.Heard, 0, x)))
	take(t, r, plain(1, 0, api.Refused, own, 24))
	take(t, r, plain(1, 0, api.Refused, own, 23))
	leads(t, r, own)
	take(t, r, plain(1, 0, api.Refused, own, 41))
	leads(t, r)
	tick(t, r)
	tick(t, r)
	tick(t, r, toAll(3, plain(0, 0, api.Prep, own, 48))...)
}

// asked is replica me of n that has just asked for i, which it has as s.
func asked(t *testing.T, me, n int, i api.Inst, s api.Slot, ballot int) *replica.Replica {
	t.Helper()
	r := mustNew(t, me, n, stored(t, rec(i, s)))
	for range 2 + 3*((me-i.Rep+n)%n) {
		tick(t, r)
	}
	tick(t, r, toAll(n, plain(me, 0, api.Prep, i, ballot))...)
	leads(t, r, i)
	after := s
	after.Ballot = ballot
	slots(t, r, rec(i, after))
	return r
}

func TestPatienceAndBallotsP16_2(t *testing.T) {
	x := entry(ask(1, "a"))
	asked(t, 0, 3, at(0, 1), slot(0, api.Heard, 0, x), 8)
	asked(t, 1, 3, at(0, 1), slot(0, api.Heard, 0, x), 9)
	asked(t, 2, 3, at(0, 1), slot(9, api.Agreed, 9, x), 18)
	asked(t, 0, 3, at(1, 1), slot(15, api.Heard, 0, x), 16)
	asked(t, 0, 3, at(2, 1), slot(16, api.Heard, 0, x), 24)
	asked(t, 6, 7, at(0, 1), slot(7, api.Agreed, 0, none()), 14)
	asked(t, 0, 7, at(1, 1), slot(8, api.Agreed, 0, none()), 16)
}

// A message about the Inst makes it wait anew, and so does asking for it.
func TestWaitsAnewP16_2(t *testing.T) {
	i, x := at(0, 1), entry(ask(1, "a"))
	r := mustNew(t, 1, 3, disk.New(65536))
	pre := msg(0, 1, api.Pre, i, 0, x)
	take(t, r, pre, msg(1, 0, api.PreOK, i, 0, x))
	for range 5 {
		tick(t, r)
	}
	take(t, r, pre, msg(1, 0, api.PreOK, i, 0, x))
	for range 5 {
		tick(t, r)
	}
	tick(t, r, toAll(3, plain(1, 0, api.Prep, i, 9))...)
	for range 4 {
		tick(t, r, toAll(3, plain(1, 0, api.Prep, i, 9))...)
	}
	take(t, r, plain(2, 1, api.Refused, i, 10))
	for range 5 {
		tick(t, r)
	}
	tick(t, r, toAll(3, plain(1, 0, api.Prep, i, 17))...)
	take(t, r, msg(2, 1, api.Commit, i, 0, x), plain(1, 2, api.Got, i, 0))
	for range 12 {
		tick(t, r)
	}
}

func TestAskForMissingP16_2(t *testing.T) {
	r := mustNew(t, 1, 3, disk.New(65536))
	x := entry(ask(1, "a"), at(0, 2))
	take(t, r, msg(2, 1, api.Commit, at(2, 1), 0, x), plain(1, 2, api.Got, at(2, 1), 0))
	for range 5 {
		tick(t, r)
	}
	tick(t, r, toAll(3, plain(1, 0, api.Prep, at(0, 2), 9))...)
	slots(t, r, rec(at(0, 2), slot(9, api.Blank, 0, api.Entry{})), rec(at(2, 1), slot(0, api.Settled, 0, x)))
	// Nobody has it: it becomes None.
	take(t, r, prepOK(2, 1, at(0, 2), slot(9, api.Blank, 0, api.Entry{})), toAll(3, msg(1, 0, api.Acc, at(0, 2), 9, none()))...)
	take(t, r, plain(0, 1, api.AccOK, at(0, 2), 9), toAll(3, msg(1, 0, api.Commit, at(0, 2), 0, none()))...)
	slots(t, r, rec(at(0, 2), slot(9, api.Settled, 9, none())), rec(at(2, 1), slot(0, api.Settled, 0, x)))
	listed(t, r, ask(1, "a"))
	// It is no own one, and so is not announced.
	tick(t, r)
}

func TestAskedAgreedP16_2(t *testing.T) {
	i, x, y := at(0, 1), entry(ask(1, "a")), entry(ask(1, "a"), at(2, 2))
	r := asked(t, 1, 5, i, slot(0, api.Heard, 0, x), 9)
	take(t, r, prepOK(4, 1, i, slot(9, api.Heard, 0, x)))
	take(t, r, prepOK(4, 1, i, slot(9, api.Heard, 0, x)))
	tick(t, r, toAll(5, plain(1, 0, api.Prep, i, 9), 4)...)
	take(t, r, prepOK(2, 1, i, slot(9, api.Agreed, 0, y)), toAll(5, msg(1, 0, api.Acc, i, 9, y))...)
	slots(t, r, rec(i, slot(9, api.Agreed, 9, y)))
	take(t, r, prepOK(3, 1, i, slot(9, api.Heard, 0, x)))
	take(t, r, plain(3, 1, api.AccOK, i, 9))
	take(t, r, plain(0, 1, api.AccOK, i, 9), toAll(5, msg(1, 0, api.Commit, i, 0, y))...)
	slots(t, r, rec(i, slot(9, api.Settled, 9, y)))
	leads(t, r)
}

// The own report is that of the slot as it was before it was asked for; so all are Heard with By 0 and the same Deps.
func TestAskedAlikeP16_2(t *testing.T) {
	i, x := at(0, 1), entry(ask(1, "a"), at(2, 2))
	r := asked(t, 1, 3, i, slot(0, api.Heard, 0, x), 9)
	take(t, r, prepOK(2, 1, i, slot(9, api.Heard, 0, x)), toAll(3, msg(1, 0, api.Acc, i, 9, x))...)
	slots(t, r, rec(i, slot(9, api.Agreed, 9, x)))
}

func TestAskedHeardP16_2(t *testing.T) {
	i, x, y := at(0, 1), entry(ask(1, "a"), at(1, 5)), entry(ask(1, "a"), at(2, 2))
	r := asked(t, 1, 3, i, slot(0, api.Heard, 0, x), 9)
	// What is in conflict here by now is added, too.
	z := entry(ask(9, "a"), at(0, 1))
	take(t, r, msg(2, 1, api.Pre, at(2, 9), 0, z), msg(1, 2, api.PreOK, at(2, 9), 0, z))
	all := entry(ask(1, "a"), at(1, 5), at(2, 2), at(2, 9))
	take(t, r, prepOK(2, 1, i, slot(9, api.Heard, 0, y)), toAll(3, msg(1, 0, api.Pre, i, 9, all))...)
	slots(t, r, rec(i, slot(9, api.Heard, 9, all)), rec(at(2, 9), slot(0, api.Heard, 0, z)))
	leads(t, r, i)
	tick(t, r, toAll(3, msg(1, 0, api.Pre, i, 9, all))...)
	more := entry(ask(1, "a"), at(0, 8), at(1, 5), at(2, 2), at(2, 9))
	take(t, r, msg(0, 1, api.PreOK, i, 9, more), toAll(3, msg(1, 0, api.Acc, i, 9, more))...)
	slots(t, r, rec(i, slot(9, api.Agreed, 9, more)), rec(at(2, 9), slot(0, api.Heard, 0, z)))
}

// With a ballot above 0 a majority is enough, and all alike must agree all the same.
func TestHeardAgainP16_2(t *testing.T) {
	i, x := at(1, 1), entry(ask(1, "a"))
	r := asked(t, 2, 5, i, slot(0, api.Heard, 0, x), 10)
	blank := slot(10, api.Blank, 0, api.Entry{})
	take(t, r, prepOK(0, 2, i, blank))
	take(t, r, prepOK(4, 2, i, blank), toAll(5, msg(2, 0, api.Pre, i, 10, x))...)
	take(t, r, msg(0, 2, api.PreOK, i, 10, x))
	take(t, r, msg(3, 2, api.PreOK, i, 10, x), toAll(5, msg(2, 0, api.Acc, i, 10, x))...)
}

func TestAskedButOvertakenP16_2(t *testing.T) {
	i, x := at(0, 1), entry(ask(1, "a"))
	r := asked(t, 1, 3, i, slot(0, api.Heard, 0, x), 9)
	take(t, r, plain(2, 1, api.Prep, i, 10), prepOK(1, 2, i, slot(10, api.Heard, 0, x)))
	leads(t, r, i)
	take(t, r, prepOK(0, 1, i, slot(9, api.Heard, 0, x)))
	leads(t, r)
	slots(t, r, rec(i, slot(10, api.Heard, 0, x)))
}

func TestCommitEndsLeadingP16_2(t *testing.T) {
	r := led(t, 3)
	y := entry(ask(1, "a"), at(2, 2))
	take(t, r, msg(1, 0, api.Commit, own, 0, y), plain(0, 1, api.Got, own, 0))
	leads(t, r)
	slots(t, r, rec(own, slot(0, api.Settled, 0, y)))
	// It is an own one, and so is announced.
	tick(t, r, toAll(3, msg(0, 0, api.Commit, own, 0, y))...)
}

// An own order that became None is submitted again.
func TestLostOrderP16_2(t *testing.T) {
	again := at(0, 2)
	x := entry(ask(1, "a"))
	for kind, back := range map[int]api.Msg{api.Acc: plain(0, 1, api.AccOK, own, 9), api.Commit: plain(0, 1, api.Got, own, 0)} {
		r := led(t, 3)
		m := msg(1, 0, kind, own, 9, none())
		take(t, r, m, append([]api.Msg{back}, toAll(3, msg(0, 0, api.Pre, again, 0, x))...)...)
		take(t, r, m, back)
		if l := r.Slots(); len(l) != 2 || l[1].Inst != again {
			t.Error(kind, l)
		}
		if kind == api.Acc {
			take(t, r, msg(1, 0, api.Commit, own, 9, none()), plain(0, 1, api.Got, own, 0))
			if l := r.Slots(); len(l) != 2 {
				t.Error(l)
			}
		}
	}
}

func TestLostButExecutedP16_2(t *testing.T) {
	r := led(t, 3)
	take(t, r, msg(1, 0, api.Commit, at(1, 1), 0, entry(ask(1, "a"))), plain(0, 1, api.Got, at(1, 1), 0))
	take(t, r, msg(1, 0, api.Commit, own, 0, none()), plain(0, 1, api.Got, own, 0))
	if l := r.Slots(); len(l) != 2 {
		t.Error(l)
	}
	// The order of somebody else's Inst is not submitted again here.
	r = mustNew(t, 1, 3, stored(t, rec(own, slot(0, api.Heard, 0, entry(ask(1, "a"))))))
	take(t, r, msg(0, 1, api.Commit, own, 0, none()), plain(1, 0, api.Got, own, 0))
	if l := r.Slots(); len(l) != 1 {
		t.Error(l)
	}
}

// The messages of the effect are sent, though there is no room to submit again.
func TestLostWithoutRoomP16_2(t *testing.T) {
	d := disk.New(65536)
	r := mustNew(t, 0, 3, d)
	r.Submit(ask(1, "a"))
	fill(t, d, 20)
	out, e := r.Take(msg(1, 0, api.Commit, own, 0, none()))
	if e != api.ErrFull || len(out) != 1 || !sameMsg(out[0], plain(0, 1, api.Got, own, 0)) {
		t.Error(out, e)
	}
	slots(t, r, rec(own, slot(0, api.Settled, 0, none())))
}

// fill leaves this much room on the disk.
func fill(t *testing.T, d *disk.Disk, room int) {
	t.Helper()
	if e := d.Append(make([]byte, d.Room()-room)); e != api.OK {
		t.Fatal(e)
	}
}

// With an error of the disk nothing changes, nothing is sent and nothing is led.
func TestFullDiskP16_2(t *testing.T) {
	i, x := at(1, 1), entry(ask(1, "a"))
	for n, m := range []api.Msg{
		msg(1, 0, api.Pre, i, 0, x), msg(1, 0, api.Acc, i, 0, x), plain(1, 0, api.Prep, i, 9), msg(1, 0, api.Commit, i, 0, x),
	} {
		d := disk.New(10)
		r := mustNew(t, 0, 3, d)
		if out, e := r.Take(m); len(out) != 0 || e != api.ErrFull {
			t.Error(n, out, e)
		}
		slots(t, r)
		listed(t, r)
		d.Break()
		if out, e := r.Take(m); len(out) != 0 || e != api.ErrDown {
			t.Error(n, out, e)
		}
		tick(t, r)
	}
}

func TestFullDiskWhileLeadingP16_2(t *testing.T) {
	d := disk.New(65536)
	r := mustNew(t, 0, 3, d)
	r.Submit(ask(1, "a"))
	x := entry(ask(1, "a"))
	take(t, r, msg(1, 0, api.PreOK, own, 0, x))
	fill(t, d, 0)
	if out, e := r.Take(msg(2, 0, api.PreOK, own, 0, x)); len(out) != 0 || e != api.ErrFull {
		t.Error(out, e)
	}
	if out, e := r.Tick(); len(out) != 0 || e != api.ErrFull {
		t.Error(out, e)
	}
	slots(t, r, rec(own, slot(0, api.Heard, 0, x)))
	leads(t, r, own)
	listed(t, r)
	// What need not be stored again goes on.
	take(t, r, msg(1, 0, api.Pre, own, 0, x), msg(0, 1, api.PreOK, own, 0, x))
}

// A tick that can't ask for one Inst still processes the others.
func TestTickWithErrorsP16_2(t *testing.T) {
	x, y := entry(ask(1, "a")), entry(ask(2, "b"))
	d := stored(t, rec(at(0, 1), slot(0, api.Heard, 0, x)), rec(at(0, 2), slot(0, api.Settled, 0, y)))
	r := mustNew(t, 0, 3, d)
	commits := toAll(3, msg(0, 0, api.Commit, at(0, 2), 0, y))
	tick(t, r, commits...)
	tick(t, r, commits...)
	fill(t, d, 0)
	out, e := r.Tick()
	if e != api.ErrFull || len(out) != 2 || !sameMsg(out[0], commits[0]) || !sameMsg(out[1], commits[1]) {
		t.Error(out, e)
	}
	leads(t, r)
	slots(t, r, rec(at(0, 1), slot(0, api.Heard, 0, x)), rec(at(0, 2), slot(0, api.Settled, 0, y)))
}

func TestTickInOrderP16_2(t *testing.T) {
	x, y, z := entry(ask(1, "a")), entry(ask(2, "b")), entry(ask(3, "c"))
	r := mustNew(t, 0, 3, stored(t, rec(at(0, 5), slot(0, api.Heard, 0, x)), rec(at(0, 2), slot(0, api.Settled, 0, y)), rec(at(0, 3), slot(0, api.Settled, 0, z)), rec(at(0, 4), slot(4, api.Agreed, 4, none()))))
	commits := append(toAll(3, msg(0, 0, api.Commit, at(0, 2), 0, y)), toAll(3, msg(0, 0, api.Commit, at(0, 3), 0, z))...)
	tick(t, r, commits...)
	tick(t, r, commits...)
	want := append(toAll(3, plain(0, 0, api.Prep, at(0, 4), 8)), toAll(3, plain(0, 0, api.Prep, at(0, 5), 8))...)
	tick(t, r, append(want, commits...)...)
	leads(t, r, at(0, 4), at(0, 5))
	listed(t, r, ask(2, "b"), ask(3, "c"))
}

func TestRestartP16_2(t *testing.T) {
	d := disk.New(65536)
	r := mustNew(t, 0, 3, d)
	r.Submit(ask(1, "a"))
	x, y := entry(ask(1, "a")), entry(ask(2, "a"), own)
	take(t, r, msg(1, 0, api.Commit, own, 0, x), plain(0, 1, api.Got, own, 0))
	take(t, r, plain(1, 0, api.Got, own, 0))
	take(t, r, plain(2, 0, api.Got, own, 0))
	r.Submit(ask(2, "a"))
	take(t, r, msg(1, 0, api.Commit, at(1, 1), 0, none(at(2, 1))), plain(0, 1, api.Got, at(1, 1), 0))
	was := r.Slots()
	d.Break()
	d.Up(0, nil)
	r = mustNew(t, 0, 3, d)
	slots(t, r, was...)
	slots(t, r, rec(own, slot(0, api.Settled, 0, x)), rec(at(0, 2), slot(0, api.Heard, 0, y)), rec(at(1, 1), slot(0, api.Settled, 0, none(at(2, 1)))))
	leads(t, r)
	listed(t, r, ask(1, "a"))
	if l := r.Waits(); len(l) != 1 || l[0] != at(1, 1) {
		t.Error(l)
	}
	// Who had answered is not stored.
	tick(t, r, toAll(3, msg(0, 0, api.Commit, own, 0, x))...)
	submit(t, r, ask(3, "z"), at(0, 3), toAll(3, msg(0, 0, api.Pre, at(0, 3), 0, entry(ask(3, "z"))))...)
}

// Nothing that is returned shares memory with the replica, or with another message.
func TestNewMemoryP16_2(t *testing.T) {
	r := mustNew(t, 0, 3, disk.New(65536))
	r.Submit(ask(1, "a"))
	o := api.Order{Id: api.Id{Client: 1, Seq: 2}, Kind: api.Post, Period: 1, Legs: []api.Leg{{Acct: "a", Sum: -1}, {Acct: "b", Sum: 1}}}
	out, i, _ := r.Submit(o)
	clear(o.Legs)
	clear(out[0].Entry.Deps)
	clear(out[0].Entry.Order.Legs)
	for _, rec := range r.Slots() {
		clear(rec.Slot.Entry.Deps)
		clear(rec.Slot.Entry.Order.Legs)
	}
	want := entry(api.Order{Id: api.Id{Client: 1, Seq: 2}, Kind: api.Post, Period: 1, Legs: []api.Leg{{Acct: "a", Sum: -1}, {Acct: "b", Sum: 1}}}, own)
	if !sameMsg(out[1], msg(0, 2, api.Pre, i, 0, want)) {
		t.Error(out[1])
	}
	slots(t, r, rec(own, slot(0, api.Heard, 0, entry(ask(1, "a")))), rec(i, slot(0, api.Heard, 0, want)))
	tick(t, r, append(toAll(3, msg(0, 0, api.Pre, own, 0, entry(ask(1, "a")))), toAll(3, msg(0, 0, api.Pre, i, 0, want))...)...)
	m := msg(1, 0, api.Commit, at(1, 1), 0, entry(ask(9, "z"), at(2, 2)))
	take(t, r, m, plain(0, 1, api.Got, at(1, 1), 0))
	m.Entry.Deps[0] = at(2, 5)
	if l := r.Slots(); l[2].Slot.Entry.Deps[0] != at(2, 2) {
		t.Error(l[2])
	}
	// Neither does an answer.
	for _, kind := range []int{api.Pre, api.Prep} {
		out, _ = r.Take(msg(1, 0, kind, at(1, 1), 0, entry(ask(9, "z"))))
		clear(out[0].Entry.Deps)
	}
	out, _ = r.Take(msg(1, 0, api.Pre, i, 0, want))
	clear(out[0].Entry.Deps)
	clear(out[0].Entry.Order.Legs)
	slots(t, r, rec(own, slot(0, api.Heard, 0, entry(ask(1, "a")))), rec(i, slot(0, api.Heard, 0, want)), rec(at(1, 1), slot(0, api.Settled, 0, entry(ask(9, "z"), at(2, 2)))))
}

func TestBlankRecordP16_2(t *testing.T) {
	slots(t, mustNew(t, 0, 3, stored(t, rec(at(1, 9), slot(0, api.Blank, 0, api.Entry{})))))
}
