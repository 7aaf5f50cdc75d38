package hold_test

import (
	"math"
	"math/rand"
	"slices"
	"testing"

	"countinghouse/api"
	"countinghouse/chart"
	"countinghouse/hold"
)

const (
	top = math.MaxInt64
	low = math.MinInt64
)

func held(num int, acct string, sum int64) hold.Held {
	return hold.Held{Num: num, Acct: acct, Sum: sum}
}

// both is a chart and its holds.
type both struct {
	*testing.T
	c *chart.Chart
	h *hold.Holds
}

// newBoth has a with 10, b with limit 3, and r, which is rich.
func newBoth(t *testing.T) both {
	t.Helper()
	x := both{t, chart.New(), hold.New()}
	for i, e := range []api.Errno{x.c.Open("a", 0), x.c.Open("b", 3), x.c.Open("r", 0), x.c.Give("a", -10), x.c.Give("r", -top)} {
		if e != api.OK {
			t.Fatal(i, e)
		}
	}
	return x
}

// gets checks an error and, if there is one, that nothing has changed.
func (x both) gets(want api.Errno, do func() api.Errno) {
	x.Helper()
	accts, holds := x.c.All(), x.h.All()
	if e := do(); e != want {
		x.Errorf("%d, not %d", e, want)
	}
	if want != api.OK && (!slices.Equal(accts, x.c.All()) || !slices.Equal(holds, x.h.All())) {
		x.Errorf("an error changed something: %v %v", x.c.All(), x.h.All())
	}
}

func (x both) put(want api.Errno, num int, acct string, sum int64) {
	x.Helper()
	x.gets(want, func() api.Errno { return x.h.Put(x.c, held(num, acct, sum)) })
}

func (x both) take(want api.Errno, acct string, num int, peer string, sum int64) {
	x.Helper()
	x.gets(want, func() api.Errno { return x.h.Take(x.c, acct, num, peer, sum) })
}

func (x both) free(want api.Errno, acct string, num int) {
	x.Helper()
	x.gets(want, func() api.Errno { return x.h.Free(x.c, acct, num) })
}

func (x both) has(acct string, have, set int64, l ...hold.Held) {
	x.Helper()
	if a, e := x.c.Get(acct); e != api.OK || a.Have != have || a.Set != set {
		x.Errorf("%s: %+v, %d", acct, a, e)
	}
	if got := x.h.Of(acct); !slices.Equal(got, l) {
		x.Errorf("%s: %v", acct, got)
	}
}

func TestPutP8_1(t *testing.T) {
	x := newBoth(t)
	x.put(api.OK, 1, "a", 6)
	x.has("a", 10, 6, held(1, "a", 6))
	x.put(api.ErrOwes, 2, "a", 5)
	x.put(api.ErrArg, 0, "a", 1)
	x.put(api.ErrArg, 10000, "a", 1)
	x.put(api.ErrArg, -1, "a", 1)
	x.put(api.ErrArg, 2, "a", 0)
	x.put(api.ErrArg, 2, "a", -1)
	x.put(api.ErrArg, 2, "a", low)
	x.put(api.ErrArg, 1, "a", 0)
	x.put(api.ErrThere, 1, "a", 50)
	x.put(api.ErrNone, 1, "z", 1)
	x.put(api.ErrNone, 1, "", 1)
	x.put(api.OK, 9999, "a", 4)
	x.put(api.OK, 1, "b", 3)
	x.put(api.ErrOwes, 2, "b", 1)
	x.put(api.OK, 1, "r", top)
	x.put(api.ErrOver, 2, "r", 1)
	x.has("a", 10, 10, held(1, "a", 6), held(9999, "a", 4))
	x.has("b", 0, 3, held(1, "b", 3))
	x.has("r", top, top, held(1, "r", top))
}

func TestEightHoldsP8_1(t *testing.T) {
	x := newBoth(t)
	for i := range 8 {
		x.put(api.OK, 9-i, "a", 1)
	}
	x.put(api.ErrFull, 10, "a", 1)
	x.put(api.ErrFull, 10, "a", 50)
	x.put(api.ErrThere, 9, "a", 1)
	x.put(api.ErrArg, 10, "a", 0)
	x.put(api.OK, 10, "b", 1)
	x.free(api.OK, "a", 5)
	x.put(api.OK, 10, "a", 1)
	x.put(api.ErrFull, 5, "a", 1)
	var nums []int
	for _, y := range x.h.Of("a") {
		nums = append(nums, y.Num)
	}
	if !slices.Equal(nums, []int{2, 3, 4, 6, 7, 8, 9, 10}) {
		t.Error(nums)
	}
}

func TestTakeP8_1(t *testing.T) {
	x := newBoth(t)
	x.put(api.OK, 1, "a", 6)
	x.take(api.ErrNone, "a", 2, "b", 1)
	x.take(api.ErrNone, "b", 1, "a", 1)
	x.take(api.ErrNone, "z", 1, "b", 0)
	x.take(api.ErrRange, "a", 1, "b", 0)
	x.take(api.ErrRange, "a", 1, "b", -1)
	x.take(api.ErrRange, "a", 1, "b", low)
	x.take(api.ErrRange, "a", 1, "b", 7)
	x.take(api.ErrRange, "a", 1, "z", 7)
	x.take(api.ErrNone, "a", 1, "z", 4)
	x.take(api.ErrArg, "a", 1, "a", 4)
	x.take(api.ErrArg, "a", 1, "Z", 4)
	x.take(api.ErrOver, "a", 1, "r", 4)
	x.has("a", 10, 6, held(1, "a", 6))
	x.take(api.OK, "a", 1, "b", 4)
	x.has("a", 6, 0)
	x.has("b", 4, 0)
	x.take(api.ErrNone, "a", 1, "b", 1)
	x.put(api.OK, 1, "a", 6)
	x.take(api.OK, "a", 1, "b", 6)
	x.has("a", 0, 0)
	x.has("b", 10, 0)
	x.put(api.OK, 5, "r", top)
	x.take(api.OK, "r", 5, "a", 1)
	x.has("r", top-1, 0)
}

func TestFreeP8_1(t *testing.T) {
	x := newBoth(t)
	x.put(api.OK, 1, "a", 6)
	x.put(api.OK, 1, "b", 2)
	x.free(api.ErrNone, "a", 2)
	x.free(api.ErrNone, "r", 1)
	x.free(api.ErrNone, "z", 1)
	x.free(api.OK, "a", 1)
	x.has("a", 10, 0)
	x.has("b", 0, 2, held(1, "b", 2))
	x.free(api.ErrNone, "a", 1)
}

// What somebody else released can't be released by a hold.
func TestReleasedElsewhereP8_1(t *testing.T) {
	x := newBoth(t)
	x.put(api.OK, 1, "a", 6)
	x.c.Aside("a", -1)
	x.take(api.ErrRange, "a", 1, "b", 4)
	x.free(api.ErrRange, "a", 1)
	x.has("a", 10, 5, held(1, "a", 6))
	other := chart.New()
	if e := x.h.Take(other, "a", 1, "b", 4); e != api.ErrNone {
		t.Error(e)
	}
	if e := x.h.Free(other, "a", 1); e != api.ErrNone {
		t.Error(e)
	}
	x.has("a", 10, 5, held(1, "a", 6))
}

func TestAllAndCopyP8_1(t *testing.T) {
	x := newBoth(t)
	if l := x.h.All(); len(l) != 0 {
		t.Error(l)
	}
	x.c.Open("ab", 50)
	want := []hold.Held{held(2, "a", 1), held(11, "a", 2), held(1, "ab", 3), held(1, "b", 1), held(3, "b", 1)}
	for _, i := range []int{3, 1, 4, 0, 2} {
		x.put(api.OK, want[i].Num, want[i].Acct, want[i].Sum)
	}
	if l := x.h.All(); !slices.Equal(l, want) {
		t.Error(l)
	}
	if l := x.h.Of("z"); len(l) != 0 {
		t.Error(l)
	}
	h := x.h.Copy()
	x.free(api.OK, "a", 2)
	if l := h.All(); !slices.Equal(l, want) {
		t.Error(l)
	}
	if e := h.Free(x.c, "b", 3); e != api.OK || len(h.Of("b")) != 1 || len(x.h.Of("b")) != 2 {
		t.Error(e, h.All(), x.h.All())
	}
	x.h.All()[0].Sum = 99
	if l := x.h.All(); !slices.Equal(l, want[1:]) {
		t.Error(l)
	}
}

func TestNilP8_1(t *testing.T) {
	x := newBoth(t)
	x.put(api.OK, 1, "a", 6)
	var none *hold.Holds
	for i, e := range []api.Errno{
		none.Put(x.c, held(2, "a", 1)), none.Take(x.c, "a", 1, "b", 1), none.Free(x.c, "a", 1),
		x.h.Put(nil, held(1, "a", 1)), x.h.Take(nil, "a", 2, "b", 1), x.h.Free(nil, "a", 2), none.Free(nil, "", 0),
	} {
		if e != api.ErrArg {
			t.Error(i, e)
		}
	}
	if len(none.All()) != 0 || len(none.Of("a")) != 0 || none.Copy() != nil {
		t.Error("not nil")
	}
	x.has("a", 10, 6, held(1, "a", 6))
}

func TestReservedIsTotalP8_2(t *testing.T) {
	r := rand.New(rand.NewSource(8))
	names := []string{"a", "b", "r"}
	for range 200 {
		x := newBoth(t)
		for range 60 {
			acct, num, sum := names[r.Intn(3)], 1+r.Intn(12), int64(r.Intn(5))
			switch r.Intn(4) {
			case 0:
				x.h.Take(x.c, acct, num, names[r.Intn(3)], sum)
			case 1:
				x.h.Free(x.c, acct, num)
			default:
				x.h.Put(x.c, held(num, acct, sum))
			}
			for _, a := range x.c.All() {
				var total int64
				for _, y := range x.h.Of(a.Name) {
					total += y.Sum
				}
				if total != a.Set || len(x.h.Of(a.Name)) > 8 {
					t.Fatal(a, x.h.All())
				}
			}
		}
	}
}
