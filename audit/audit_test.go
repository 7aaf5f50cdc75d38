package audit_test

import (
	"math"
	"math/rand"
	"slices"
	"testing"

	"countinghouse/api"
	"countinghouse/audit"
	"countinghouse/book"
)

const top = math.MaxInt64

func id(seq int) api.Id { return api.Id{Client: 0, Seq: seq} }

func ids(seqs ...int) []api.Id {
	var l []api.Id
	for _, seq := range seqs {
		l = append(l, id(seq))
	}
	return l
}

func leg(acct string, sum int64) api.Leg { return api.Leg{Acct: acct, Sum: sum} }

func open(seq int, acct string, limit int64) api.Order {
	return api.Order{Id: id(seq), Kind: api.Open, Acct: acct, Sum: limit}
}

func post(seq, period int, note string, legs ...api.Leg) api.Order {
	return api.Order{Id: id(seq), Kind: api.Post, Period: period, Note: note, Legs: legs}
}

func holding(seq int, acct string, sum int64) api.Order {
	return api.Order{Id: id(seq), Kind: api.Hold, Acct: acct, Sum: sum}
}

func capture(seq, period int, acct, peer string, num int, sum int64) api.Order {
	return api.Order{Id: id(seq), Kind: api.Capture, Acct: acct, Peer: peer, Hold: num, Sum: sum, Period: period}
}

func closing(seq, period int) api.Order {
	return api.Order{Id: id(seq), Kind: api.Close, Period: period}
}

func story() []api.Order {
	return []api.Order{
		open(1, "a", 100), open(2, "b", 100), open(3, "c", 100), open(3, "c", 100),
		post(4, 2, "rent", leg("a", -5), leg("b", 5)),
		post(5, 3, "", leg("b", -7), leg("c", 3), leg("a", 4)),
		post(6, 3, "rent", leg("a", -500), leg("b", 500)),
		holding(7, "c", 9),
		capture(8, 5, "c", "a", 7, 6),
		capture(9, 5, "c", "a", 7, 6),
		post(10, 1, "rent", leg("c", -1), leg("b", 1)),
		closing(11, 2),
		post(12, 2, "late", leg("a", -5), leg("b", 5)),
		post(13, 9, "rent", leg("a", -5), leg("b", 4)),
		{Id: id(14), Kind: api.Ask, Acct: "z"},
		{Id: id(15), Kind: api.Ask, Acct: "Z"},
		post(4, 7, "again", leg("a", -5), leg("b", 5)),
	}
}

func same(a, b []audit.Move) bool {
	return slices.EqualFunc(a, b, func(a, b audit.Move) bool {
		return a.Id == b.Id && a.Period == b.Period && slices.Equal(a.Legs, b.Legs)
	})
}

func TestMovesP22_1(t *testing.T) {
	want := []audit.Move{
		{Id: id(4), Period: 2, Legs: []api.Leg{leg("a", -5), leg("b", 5)}},
		{Id: id(5), Period: 3, Legs: []api.Leg{leg("b", -7), leg("c", 3), leg("a", 4)}},
		{Id: id(8), Period: 5, Legs: []api.Leg{leg("c", -6), leg("a", 6)}},
		{Id: id(10), Period: 1, Legs: []api.Leg{leg("c", -1), leg("b", 1)}},
		{Id: id(4), Period: 7, Legs: []api.Leg{leg("a", -5), leg("b", 5)}},
	}
	l := story()
	got := audit.Moves(l)
	if !same(got, want) {
		t.Error(got)
	}
	clear(got[0].Legs)
	if l[4].Legs[0] != leg("a", -5) || !same(audit.Moves(l), want) {
		t.Error("the argument has changed")
	}
	if got := audit.Moves(nil); len(got) != 0 {
		t.Error(got)
	}
}

func TestTrialP22_1(t *testing.T) {
	line := func(acct string, in, out int64) audit.Line { return audit.Line{Acct: acct, In: in, Out: out} }
	for period, want := range map[int][]audit.Line{
		math.MinInt: nil, 0: nil,
		1:    {line("b", 1, 0), line("c", 0, 1)},
		2:    {line("a", 0, 5), line("b", 6, 0), line("c", 0, 1)},
		3:    {line("a", 4, 5), line("b", 6, 7), line("c", 3, 1)},
		4:    {line("a", 4, 5), line("b", 6, 7), line("c", 3, 1)},
		5:    {line("a", 10, 5), line("b", 6, 7), line("c", 3, 7)},
		1000: {line("a", 10, 10), line("b", 11, 7), line("c", 3, 7)},
	} {
		if got, e := audit.Trial(story(), period); !slices.Equal(got, want) || e != api.OK {
			t.Error(period, got, e)
		}
	}
	l := []api.Order{open(1, "a", 5), open(2, "b", 5), post(3, 1, "", leg("a", -5), leg("b", 5))}
	if got, e := audit.Trial(l, 1); !slices.Equal(got, []audit.Line{line("a", 0, 5), line("b", 5, 0)}) || e != api.OK {
		t.Error(got, e)
	}
}

// wheel moves as much as can be from a to b, and back, so that the totals are no sums.
func wheel() []api.Order {
	return []api.Order{
		open(1, "a", top), open(2, "b", top), open(3, "c", top),
		post(4, 4, "", leg("a", -top), leg("b", top)),
		post(5, 5, "", leg("b", -top), leg("a", top)),
		post(6, 6, "", leg("c", -1), leg("a", 1)),
		post(7, 7, "", leg("a", -1), leg("c", 1)),
		post(8, 8, "", leg("a", -1), leg("b", 1)),
	}
}

func TestTrialOverP22_1(t *testing.T) {
	for period, want := range map[int]api.Errno{5: api.OK, 6: api.ErrOver, 7: api.ErrOver, 8: api.ErrOver} {
		got, e := audit.Trial(wheel(), period)
		if e != want || len(got) > 0 != (want == api.OK) {
			t.Error(period, got, e)
		}
	}
	// The negative of what went out is no sum, though what went out is one.
	out := append(wheel()[:5], post(6, 6, "", leg("a", -1), leg("c", 1)))
	if got, e := audit.Trial(out, 6); len(got) != 0 || e != api.ErrOver {
		t.Error(got, e)
	}
	if got, e := audit.Trial(append(out, post(7, 7, "", leg("a", -1), leg("c", 1))), 7); len(got) != 0 || e != api.ErrOver {
		t.Error(got, e)
	}
}

func TestErrorsP22_1(t *testing.T) {
	want := [15]int{}
	want[api.OK] = 10
	want[api.ErrThere] = 1
	want[api.ErrOwes] = 1
	want[api.ErrNone] = 2
	want[api.ErrClosed] = 1
	want[api.ErrWeigh] = 1
	want[api.ErrArg] = 1
	if got := audit.Errors(story()); got != want {
		t.Error(got)
	}
	if got := audit.Errors(nil); got != [15]int{} {
		t.Error(got)
	}
}

func TestNotesP22_1(t *testing.T) {
	for note, want := range map[string][]api.Id{
		"rent": ids(4, 10), "": ids(5, 8), "late": nil, "again": ids(4), "Rent": nil, "ren": nil,
	} {
		if got := audit.Notes(story(), note); !slices.Equal(got, want) {
			t.Error(note, got)
		}
	}
}

func TestBetweenP22_1(t *testing.T) {
	for _, x := range []struct {
		acct     string
		from, to int
		want     int64
	}{
		{"a", 1, 1000, 0}, {"a", 2, 2, -5}, {"a", 3, 3, 4}, {"a", 2, 3, -1}, {"a", 4, 6, 6}, {"a", 3, 2, 0}, {"a", math.MinInt, math.MaxInt, 0},
		{"b", 1, 2, 6}, {"b", 0, 1, 1}, {"c", 1, 5, -4}, {"z", 1, 1000, 0}, {"", 1, 1000, 0}, {"b", math.MaxInt, math.MinInt, 0},
	} {
		if got, e := audit.Between(story(), x.acct, x.from, x.to); got != x.want || e != api.OK {
			t.Error(x, got, e)
		}
	}
	for _, x := range []struct {
		from, to int
		want     int64
		e        api.Errno
	}{{4, 4, -top, api.OK}, {5, 5, top, api.OK}, {5, 6, 0, api.ErrOver}, {4, 8, -1, api.OK}, {5, 7, top, api.OK}} {
		if got, e := audit.Between(wheel(), "a", x.from, x.to); got != x.want || e != x.e {
			t.Error(x, got, e)
		}
	}
}

func TestLargestP22_1(t *testing.T) {
	for n, want := range map[int][]api.Id{
		0: nil, -1: nil, math.MinInt: nil, 1: ids(5), 2: ids(5, 8), 3: ids(5, 8, 4), 4: ids(5, 8, 4, 4), 5: ids(5, 8, 4, 4, 10), 6: ids(5, 8, 4, 4, 10), math.MaxInt: ids(5, 8, 4, 4, 10),
	} {
		if got := audit.Largest(story(), n); !slices.Equal(got, want) {
			t.Error(n, got)
		}
	}
	// An amount that is no sum counts as the greatest sum, and so is not ahead of it.
	l := append(wheel()[:3], open(10, "d", top),
		post(4, 1, "", leg("a", -1), leg("b", 1)),
		post(5, 1, "", leg("c", -top), leg("a", top)),
		post(6, 1, "", leg("a", -top), leg("d", -1), leg("c", top), leg("b", 1)),
		post(7, 1, "", leg("c", -top), leg("a", top)),
		post(8, 1, "", leg("a", -5), leg("b", 5)),
	)
	if got := audit.Largest(l, 9); !slices.Equal(got, ids(5, 6, 7, 8, 4)) {
		t.Error(got)
	}
}

func TestTrialBalancesP22_2(t *testing.T) {
	r := rand.New(rand.NewSource(22))
	for range 300 {
		l := []api.Order{open(1, "a", 30), open(2, "b", 30), open(3, "c", 30)}
		for seq := 4; seq < 60; seq++ {
			p := r.Perm(3)
			x, y, sum := string(rune('a'+p[0])), string(rune('a'+p[1])), int64(1+r.Intn(9))
			switch r.Intn(3) {
			case 0:
				l = append(l, holding(seq, x, sum))
			case 1:
				l = append(l, capture(seq, 1+r.Intn(5), x, y, 1+r.Intn(seq), 1+sum/3))
			case 2:
				l = append(l, post(seq, 1+r.Intn(5), "", leg(x, -sum), leg(y, sum)))
			}
		}
		_, b := book.Fold(l)
		lines, e := audit.Trial(l, 5)
		var in, out int64
		for _, x := range lines {
			in, out = in+x.In, out+x.Out
			between, f := audit.Between(l, x.Acct, 1, 5)
			if between != x.In-x.Out || f != api.OK {
				t.Fatal(x, between)
			}
			for _, a := range b.Accts() {
				if a.Name == x.Acct && a.Have != between {
					t.Fatal(a, x)
				}
			}
		}
		if in != out || in == 0 || e != api.OK {
			t.Fatal(lines, e)
		}
	}
}
