package chart_test

import (
	"fmt"
	"math"
	"math/big"
	"math/rand"
	"slices"
	"testing"

	"countinghouse/api"
	"countinghouse/chart"
)

const (
	top = math.MaxInt64
	low = math.MinInt64
)

func want(t *testing.T, what string, e, wanted api.Errno) {
	t.Helper()
	if e != wanted {
		t.Errorf("%s: %d, not %d", what, e, wanted)
	}
}

func has(t *testing.T, c *chart.Chart, name string, have, set, limit int64) {
	t.Helper()
	if a, e := c.Get(name); e != api.OK || a != (api.Acct{Name: name, Have: have, Set: set, Limit: limit}) {
		t.Errorf("%s: %+v, %d", name, a, e)
	}
}

func TestNameP5_1(t *testing.T) {
	for _, s := range []string{"a", "z", "0", "9", "a1b2c3d4", "zzzzzzzz", "00000000"} {
		if !chart.Name(s) {
			t.Errorf("%q", s)
		}
	}
	for _, s := range []string{"", "123456789", "abcdefghi", "A", "Z", "aB", "a b", " ", "a-", "`", "{", "/", ":", "é", "aé", "\xff", "a\x00", "ａ", "٣", "\uFFFD"} {
		if chart.Name(s) {
			t.Errorf("%q", s)
		}
	}
	for c := range 256 {
		good := c >= 'a' && c <= 'z' || c >= '0' && c <= '9'
		if chart.Name(string([]byte{'a', byte(c)})) != good {
			t.Error(c)
		}
	}
}

func TestOpenP5_1(t *testing.T) {
	c := chart.New()
	if l := c.All(); len(l) != 0 {
		t.Error(l)
	}
	want(t, "name", c.Open("A", 0), api.ErrArg)
	want(t, "no name", c.Open("", 0), api.ErrArg)
	want(t, "long name", c.Open("abcdefghi", 0), api.ErrArg)
	want(t, "limit", c.Open("a", -1), api.ErrArg)
	want(t, "limit", c.Open("a", low), api.ErrArg)
	want(t, "open", c.Open("a", top), api.OK)
	has(t, c, "a", 0, 0, top)
	want(t, "again", c.Open("a", 5), api.ErrThere)
	want(t, "again, with a bad limit", c.Open("a", -5), api.ErrArg)
	has(t, c, "a", 0, 0, top)
	for i := range 11 {
		want(t, "open", c.Open(fmt.Sprint("b", i), int64(i)), api.OK)
	}
	want(t, "thirteenth", c.Open("c", 0), api.ErrFull)
	want(t, "there", c.Open("b10", 0), api.ErrThere)
	want(t, "bad", c.Open("C", 0), api.ErrArg)
	if len(c.All()) != 12 {
		t.Error(c.All())
	}
	if a, e := c.Get("c"); e != api.ErrNone || a != (api.Acct{}) {
		t.Error(a, e)
	}
}

func TestGiveP5_1P5_2(t *testing.T) {
	c := chart.New()
	want(t, "none", c.Give("a", 0), api.ErrNone)
	want(t, "none", c.Give("", low), api.ErrNone)
	c.Open("a", 5)
	want(t, "5", c.Give("a", 5), api.OK)
	has(t, c, "a", -5, 0, 5)
	want(t, "1", c.Give("a", 1), api.ErrOwes)
	want(t, "0", c.Give("a", 0), api.OK)
	want(t, "back", c.Give("a", -5), api.OK)
	has(t, c, "a", 0, 0, 5)
	want(t, "6", c.Give("a", 6), api.ErrOwes)
	want(t, "least", c.Give("a", low), api.ErrOver)
	want(t, "most", c.Give("a", top), api.ErrOwes)
	want(t, "get", c.Give("a", -top), api.OK)
	want(t, "more", c.Give("a", -1), api.ErrOver)
	has(t, c, "a", top, 0, 5)
	want(t, "all", c.Give("a", top), api.OK)
	has(t, c, "a", 0, 0, 5)
	c.Open("b", top)
	want(t, "all that may be", c.Give("b", top), api.OK)
	want(t, "one more", c.Give("b", 1), api.ErrOwes)
	want(t, "two more", c.Give("b", 2), api.ErrOver)
	want(t, "far more", c.Give("b", top), api.ErrOver)
	has(t, c, "b", -top, 0, top)
}

func TestAsideP5_1P5_2(t *testing.T) {
	c := chart.New()
	want(t, "none", c.Aside("a", 0), api.ErrNone)
	c.Open("a", 5)
	want(t, "below", c.Aside("a", -1), api.ErrRange)
	want(t, "6", c.Aside("a", 6), api.ErrOwes)
	want(t, "3", c.Aside("a", 3), api.OK)
	has(t, c, "a", 0, 3, 5)
	want(t, "3", c.Aside("a", 3), api.ErrOwes)
	want(t, "give 3", c.Give("a", 3), api.ErrOwes)
	want(t, "give 2", c.Give("a", 2), api.OK)
	want(t, "1", c.Aside("a", 1), api.ErrOwes)
	want(t, "0", c.Aside("a", 0), api.OK)
	want(t, "-4", c.Aside("a", -4), api.ErrRange)
	want(t, "-3", c.Aside("a", -3), api.OK)
	has(t, c, "a", -2, 0, 5)
	want(t, "least", c.Aside("a", low), api.ErrRange)
	c.Give("a", -top)
	want(t, "most", c.Aside("a", top-1), api.OK)
	has(t, c, "a", top-2, top-1, 5)
	want(t, "one", c.Aside("a", 1), api.OK)
	want(t, "over", c.Aside("a", 1), api.ErrOver)
	want(t, "over", c.Aside("a", top), api.ErrOver)
	want(t, "over", c.Give("a", -3), api.ErrOver)
	has(t, c, "a", top-2, top, 5)
	// Nothing that is reserved may be given.
	want(t, "give 4", c.Give("a", 4), api.ErrOwes)
	want(t, "give 3", c.Give("a", 3), api.OK)
	has(t, c, "a", top-5, top, 5)
}

// What is left after the reserved amount need not be a sum.
func TestLeftIsNoSumP5_1(t *testing.T) {
	c := chart.New()
	c.Open("a", top)
	want(t, "reserve", c.Aside("a", top), api.OK)
	want(t, "2", c.Give("a", 2), api.ErrOwes)
	want(t, "1", c.Give("a", 1), api.ErrOwes)
	want(t, "most", c.Give("a", top), api.ErrOwes)
	want(t, "over", c.Give("a", low), api.ErrOver)
	has(t, c, "a", 0, top, top)
	want(t, "get", c.Give("a", -top), api.OK)
	want(t, "give", c.Give("a", top), api.OK)
	want(t, "give", c.Give("a", 1), api.ErrOwes)
}

func TestAllTotalP5_1(t *testing.T) {
	c := chart.New()
	if s, e := c.Total(); s != 0 || e != api.OK {
		t.Error(s, e)
	}
	for _, n := range []string{"b", "ab", "a", "9", "b0", "ba", "0", "zzzzzzzz"} {
		c.Open(n, 7)
	}
	c.Give("a", 7)
	c.Give("b", -9)
	var names []string
	for _, a := range c.All() {
		names = append(names, a.Name)
		has(t, c, a.Name, a.Have, a.Set, 7)
	}
	if !slices.Equal(names, []string{"0", "9", "a", "ab", "b", "b0", "ba", "zzzzzzzz"}) {
		t.Error(names)
	}
	if s, e := c.Total(); s != 2 || e != api.OK {
		t.Error(s, e)
	}
	c.Give("0", -top)
	c.Give("9", -top)
	if s, e := c.Total(); s != 0 || e != api.ErrOver {
		t.Error(s, e)
	}
	c.All()[0].Have = 5
	has(t, c, "0", top, 0, 7)
}

func TestCopyP5_1(t *testing.T) {
	c := chart.New()
	c.Open("a", 5)
	c.Aside("a", 1)
	d := c.Copy()
	has(t, d, "a", 0, 1, 5)
	c.Give("a", 1)
	d.Open("b", 0)
	d.Aside("a", 2)
	has(t, c, "a", -1, 1, 5)
	has(t, d, "a", 0, 3, 5)
	if len(c.All()) != 1 || len(d.All()) != 2 {
		t.Error(c.All(), d.All())
	}
}

func TestNilChartP5_1(t *testing.T) {
	var c *chart.Chart
	want(t, "Open", c.Open("a", 0), api.ErrArg)
	want(t, "Give", c.Give("a", 0), api.ErrArg)
	want(t, "Aside", c.Aside("a", 0), api.ErrArg)
	if a, e := c.Get("a"); a != (api.Acct{}) || e != api.ErrArg {
		t.Error(a, e)
	}
	if s, e := c.Total(); s != 0 || e != api.ErrArg {
		t.Error(s, e)
	}
	if len(c.All()) != 0 || c.Copy() != nil {
		t.Error("not nil")
	}
}

// After any calls the account is what big numbers say of it.
func TestAnySequenceP5_1P5_2(t *testing.T) {
	r := rand.New(rand.NewSource(5))
	near := []int64{0, top, low, top / 2, low / 2, 1 << 40}
	for range 400 {
		c := chart.New()
		limit := near[r.Intn(len(near))] & top
		c.Open("a", limit)
		for range 40 {
			x := near[r.Intn(len(near))] + int64(r.Intn(9)) - 4
			a, _ := c.Get("a")
			aside := r.Intn(2) == 0
			e, after := model(a, x, aside)
			if aside {
				want(t, fmt.Sprint("Aside ", x, a), c.Aside("a", x), e)
			} else {
				want(t, fmt.Sprint("Give ", x, a), c.Give("a", x), e)
			}
			has(t, c, "a", after.Have, after.Set, limit)
			if left := sum(after.Have, after.Set, 0); left.Cmp(new(big.Int).Neg(big.NewInt(limit))) < 0 {
				t.Fatal("overdrawn", after)
			}
			if e == api.OK && !aside && x > 0 {
				want(t, "back", c.Give("a", -x), api.OK)
				has(t, c, "a", a.Have, a.Set, limit)
			}
		}
	}
}

// sum is a minus b minus x.
func sum(a, b, x int64) *big.Int {
	s := new(big.Int).Sub(big.NewInt(a), big.NewInt(b))
	return s.Sub(s, big.NewInt(x))
}

func model(a api.Acct, x int64, aside bool) (api.Errno, api.Acct) {
	was := a
	next := sum(a.Have, x, 0)
	if aside {
		next = new(big.Int).Add(big.NewInt(a.Set), big.NewInt(x))
	}
	if !next.IsInt64() {
		return api.ErrOver, was
	}
	left := sum(a.Have, a.Set, x)
	if x > 0 && (!left.IsInt64() || left.Cmp(new(big.Int).Neg(big.NewInt(a.Limit))) < 0) {
		return api.ErrOwes, was
	}
	if aside && next.Sign() < 0 {
		return api.ErrRange, was
	}
	if aside {
		a.Set = next.Int64()
	} else {
		a.Have = next.Int64()
	}
	return api.OK, a
}
