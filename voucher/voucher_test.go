package voucher_test

import (
	"fmt"
	"math"
	"math/rand"
	"slices"
	"testing"

	"countinghouse/api"
	"countinghouse/chart"
	"countinghouse/voucher"
)

const (
	top = math.MaxInt64
	low = math.MinInt64
)

func leg(acct string, sum int64) api.Leg { return api.Leg{Acct: acct, Sum: sum} }

func legs(l ...api.Leg) []api.Leg { return l }

// newChart has a with limit 5, b with limit 0 and 10 of which 4 are reserved, c and d with no limit to speak of, and r, which is rich.
func newChart(t *testing.T) *chart.Chart {
	t.Helper()
	c := chart.New()
	for i, e := range []api.Errno{
		c.Open("a", 5), c.Open("b", 0), c.Open("c", top), c.Open("d", top), c.Open("r", 0), c.Open("e", 0),
		c.Give("b", -10), c.Aside("b", 4), c.Give("d", top), c.Give("r", -top),
	} {
		if e != api.OK {
			t.Fatal(i, e)
		}
	}
	return c
}

func TestCheckAndMakeP7_1(t *testing.T) {
	for i, x := range []struct {
		l []api.Leg
		e api.Errno
	}{
		{legs(leg("a", -5), leg("b", 3), leg("c", 2)), api.OK},
		{legs(leg("a", -5), leg("b", 4)), api.ErrWeigh},
		{nil, api.ErrArg},
		{legs(leg("a", -5)), api.ErrArg},
		{legs(leg("a", -5), leg("a", 5)), api.ErrArg},
		{legs(leg("a", -5), leg("b", 5), leg("c", 0)), api.ErrArg},
		{legs(leg("a", -5), leg("B", 5)), api.ErrArg},
		{legs(leg("a", -5), leg("", 5)), api.ErrArg},
		{legs(leg("a", -5), leg("ninebytes", 5)), api.ErrArg},
		{legs(leg("a", 1), leg("b", 1), leg("c", 1), leg("d", 1), leg("e", 1), leg("r", -5)), api.OK},
		{legs(leg("a", 1), leg("b", 1), leg("c", 1), leg("d", 1), leg("e", 1), leg("r", 1), leg("z", -6)), api.ErrArg},
		{legs(leg("x", 5), leg("y", -4)), api.ErrWeigh},
		{legs(leg("c", top), leg("a", top), leg("b", 2)), api.ErrWeigh},
		{legs(leg("c", low), leg("a", low)), api.ErrWeigh},
		{legs(leg("x", 5), leg("y", -5)), api.ErrNone},
		{legs(leg("x", 5), leg("e", -5)), api.ErrNone},
		{legs(leg("e", -5), leg("x", 5)), api.ErrOwes},
		{legs(leg("a", -6), leg("b", 6)), api.ErrOwes},
		{legs(leg("b", -6), leg("a", 6)), api.OK},
		{legs(leg("b", -7), leg("a", 7)), api.ErrOwes},
		{legs(leg("b", 7), leg("a", -7)), api.ErrOwes},
		{legs(leg("r", 1), leg("e", -1)), api.ErrOver},
		{legs(leg("e", -1), leg("r", 1)), api.ErrOwes},
		{legs(leg("d", -1), leg("c", 1)), api.ErrOwes},
		{legs(leg("d", -2), leg("c", 2)), api.ErrOver},
		{legs(leg("c", low), leg("a", top), leg("e", 1)), api.ErrOver},
		{legs(leg("d", low), leg("a", top), leg("e", 1)), api.ErrOver},
		{legs(leg("x", low), leg("a", top), leg("e", 1)), api.ErrNone},
		{legs(leg("a", top), leg("c", low), leg("e", 1)), api.ErrOver},
		{legs(leg("e", 1), leg("a", top), leg("r", -top), leg("b", -1)), api.OK},
		{legs(leg("r", -top), leg("c", top)), api.OK},
		{legs(leg("c", -top), leg("d", top)), api.OK},
	} {
		c := newChart(t)
		before := c.All()
		given := slices.Clone(x.l)
		if e := voucher.Check(c, x.l); e != x.e {
			t.Error(i, "Check", e)
		}
		if !slices.Equal(c.All(), before) {
			t.Error(i, "Check has changed the chart")
		}
		if e := voucher.Make(c, x.l); e != x.e {
			t.Error(i, "Make", e)
		}
		if !slices.Equal(given, x.l) {
			t.Error(i, "the argument has changed")
		}
		if x.e != api.OK {
			x.l = nil
		}
		posted(t, fmt.Sprint(i), before, c.All(), x.l)
	}
}

// posted checks that the accounts have grown by just the legs.
func posted(t *testing.T, what string, before, after []api.Acct, l []api.Leg) {
	t.Helper()
	for _, leg := range l {
		for i := range before {
			if before[i].Name == leg.Acct {
				before[i].Have += leg.Sum
			}
		}
	}
	if !slices.Equal(before, after) {
		t.Errorf("%s: %v, not %v", what, after, before)
	}
}

func TestNilChartP7_1(t *testing.T) {
	for _, l := range [][]api.Leg{nil, legs(leg("a", -5), leg("b", 5)), legs(leg("a", -5), leg("b", 4))} {
		if e := voucher.Check(nil, l); e != api.ErrArg {
			t.Error(e)
		}
		if e := voucher.Make(nil, l); e != api.ErrArg {
			t.Error(e)
		}
	}
}

func TestMirrorP7_1(t *testing.T) {
	l := legs(leg("b", -5), leg("", 0), leg("b", top), leg("A", -top))
	got, e := voucher.Mirror(l)
	if e != api.OK || !slices.Equal(got, legs(leg("b", 5), leg("", 0), leg("b", -top), leg("A", top))) {
		t.Error(got, e)
	}
	got[0].Sum = 99
	if l[0].Sum != -5 {
		t.Error("the argument has changed")
	}
	if got, e := voucher.Mirror(nil); len(got) != 0 || e != api.OK {
		t.Error(got, e)
	}
	if got, e := voucher.Mirror(legs(leg("a", 5), leg("b", low))); len(got) != 0 || e != api.ErrOver {
		t.Error(got, e)
	}
}

func TestNetP7_1(t *testing.T) {
	for i, x := range []struct {
		l    [][]api.Leg
		want []api.Leg
		e    api.Errno
	}{
		{nil, nil, api.OK},
		{[][]api.Leg{nil, {}}, nil, api.OK},
		{[][]api.Leg{{leg("b", 5), leg("a", -5)}, {leg("ab", 3), leg("b", -3)}}, legs(leg("a", -5), leg("ab", 3), leg("b", 2)), api.OK},
		{[][]api.Leg{{leg("b", 5)}, {leg("a", 1)}, {leg("b", -5)}}, legs(leg("a", 1)), api.OK},
		{[][]api.Leg{{leg("b", 5), leg("b", 6)}}, legs(leg("b", 11)), api.OK},
		{[][]api.Leg{{leg("b", top)}, {leg("b", top)}, {leg("b", low)}}, legs(leg("b", top-1)), api.OK},
		{[][]api.Leg{{leg("b", top), leg("a", 1)}, {leg("b", 1)}}, nil, api.ErrOver},
		{[][]api.Leg{{leg("b", low), leg("a", 1)}, {leg("b", -1)}}, nil, api.ErrOver},
		{[][]api.Leg{{leg("b", low)}}, legs(leg("b", low)), api.OK},
	} {
		if got, e := voucher.Net(x.l); !slices.Equal(got, x.want) || e != x.e {
			t.Error(i, got, e)
		}
	}
}

func TestPostingAndMirrorP7_2(t *testing.T) {
	r := rand.New(rand.NewSource(7))
	names := []string{"a", "b", "c", "d", "e", "r"}
	made := 0
	for range 2000 {
		c := newChart(t)
		before := c.All()
		total, e := c.Total()
		var l []api.Leg
		var rest int64
		for _, k := range r.Perm(6)[:2+r.Intn(5)] {
			sum := int64(r.Intn(9) - 4)
			l = append(l, leg(names[k], sum))
			rest -= sum
		}
		l[0].Sum += rest
		if voucher.Make(c, l) != api.OK {
			posted(t, "not made", before, c.All(), nil)
			continue
		}
		made++
		if after, f := c.Total(); after != total || e != f {
			t.Fatal(l, "changes the total")
		}
		m, e := voucher.Mirror(l)
		if e != api.OK {
			t.Fatal(e)
		}
		if e := voucher.Make(c, m); e != api.OK {
			t.Fatal(l, e)
		}
		posted(t, "reverted", before, c.All(), nil)
		if net, e := voucher.Net([][]api.Leg{l, m}); len(net) != 0 || e != api.OK {
			t.Fatal(net, e)
		}
	}
	if made < 50 {
		t.Error("only", made, "were made")
	}
}
