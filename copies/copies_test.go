package copies_test

import (
	"slices"
	"testing"

	"countinghouse/api"
	"countinghouse/copies"
)

func message() api.Msg {
	return api.Msg{From: 1, Inst: api.Inst{Rep: 1, Num: 2}, Entry: api.Entry{
		Order: api.Order{Kind: api.Post, Legs: []api.Leg{{Acct: "a", Sum: 5}}},
		Deps:  []api.Inst{{Rep: 3, Num: 4}},
	}}
}

func unchanged(t *testing.T, m api.Msg) {
	t.Helper()
	want := message().Entry
	if m.From != 1 || !slices.Equal(m.Entry.Deps, want.Deps) || !slices.Equal(m.Entry.Order.Legs, want.Order.Legs) || m.Entry.Order.Kind != api.Post {
		t.Error(m)
	}
}

func TestCopiesShareNothing(t *testing.T) {
	m := message()
	c := copies.Msg(m)
	unchanged(t, c)
	clear(c.Entry.Deps)
	clear(c.Entry.Order.Legs)
	unchanged(t, m)
	r := copies.Record(api.Record{Slot: api.Slot{Entry: m.Entry}})
	unchanged(t, api.Msg{From: 1, Entry: r.Slot.Entry})
	clear(r.Slot.Entry.Deps)
	clear(r.Slot.Entry.Order.Legs)
	unchanged(t, m)
	l := copies.All([]api.Msg{m, m}, copies.Msg)
	if len(l) != 2 {
		t.Fatal(l)
	}
	clear(l[0].Entry.Deps)
	unchanged(t, m)
	unchanged(t, l[1])
	if len(copies.All(nil, copies.Msg)) != 0 {
		t.Error("none")
	}
}
