package coins_test

import (
	"math"
	"math/big"
	"slices"
	"strings"
	"testing"

	"countinghouse/api"
	"countinghouse/coins"
)

const (
	top = math.MaxInt64
	low = math.MinInt64
)

// edges are numbers near all bounds at which something can run over.
func edges() []int64 {
	l := []int64{0, 1, -1, 2, -2, 3, 10, -10, 99, 1000, 3037000499, 3037000500, -3037000499, -3037000500}
	for _, b := range []int64{1 << 31, 1 << 32, 1 << 62, -1 << 62, top, low} {
		for d := int64(-2); d <= 2; d++ {
			l = append(l, b+d)
		}
	}
	return l
}

func expect(t *testing.T, what string, a, b int64, got int64, e api.Errno, want *big.Int) {
	t.Helper()
	if !want.IsInt64() {
		if got != 0 || e != api.ErrOver {
			t.Errorf("%d %s %d: %d, %d", a, what, b, got, e)
		}
		return
	}
	if e != api.OK || got != want.Int64() {
		t.Errorf("%d %s %d: %d, %d", a, what, b, got, e)
	}
}

func TestAddLessTimesP1_1(t *testing.T) {
	for _, a := range edges() {
		for _, b := range edges() {
			x, y := big.NewInt(a), big.NewInt(b)
			got, e := coins.Add(a, b)
			expect(t, "+", a, b, got, e, new(big.Int).Add(x, y))
			got, e = coins.Less(a, b)
			expect(t, "-", a, b, got, e, new(big.Int).Sub(x, y))
			got, e = coins.Times(a, b)
			expect(t, "*", a, b, got, e, new(big.Int).Mul(x, y))
		}
	}
}

func TestTotalP1_1(t *testing.T) {
	for i, x := range []struct {
		l    []int64
		want int64
		e    api.Errno
	}{
		{nil, 0, api.OK},
		{[]int64{}, 0, api.OK},
		{[]int64{7}, 7, api.OK},
		{[]int64{low}, low, api.OK},
		{[]int64{top, 1}, 0, api.ErrOver},
		{[]int64{low, -1}, 0, api.ErrOver},
		{[]int64{top, 1, -1}, top, api.OK},
		{[]int64{low, -1, 1}, low, api.OK},
		{[]int64{top, top, top, low, low, low}, -3, api.OK},
		{[]int64{top, top, top, top}, 0, api.ErrOver},
		{[]int64{low, low}, 0, api.ErrOver},
		{[]int64{low, low, low, low}, 0, api.ErrOver},
		{[]int64{1, 2, 3, -10}, -4, api.OK},
	} {
		before := slices.Clone(x.l)
		if got, e := coins.Total(x.l); got != x.want || e != x.e {
			t.Error(i, got, e)
		}
		if !slices.Equal(before, x.l) {
			t.Error(i, "the argument has changed")
		}
	}
	many := make([]int64, 0, 2000)
	for range 1000 {
		many = append(many, low)
	}
	for range 1000 {
		many = append(many, top)
	}
	if got, e := coins.Total(many); got != -1000 || e != api.OK {
		t.Error(got, e)
	}
}

func TestShareP1_1P1_2(t *testing.T) {
	for _, parts := range []int{0, -1, 101, low, top} {
		if l, e := coins.Share(5, parts); len(l) != 0 || e != api.ErrArg {
			t.Error(parts, l, e)
		}
	}
	if l, e := coins.Share(7, 3); !slices.Equal(l, []int64{3, 2, 2}) || e != api.OK {
		t.Error(l, e)
	}
	if l, e := coins.Share(-7, 3); !slices.Equal(l, []int64{-2, -2, -3}) || e != api.OK {
		t.Error(l, e)
	}
	for _, a := range edges() {
		for parts := 1; parts <= 100; parts++ {
			checkShare(t, a, parts)
		}
	}
}

func checkShare(t *testing.T, a int64, parts int) {
	t.Helper()
	l, e := coins.Share(a, parts)
	if e != api.OK || len(l) != parts {
		t.Fatal(a, parts, l, e)
	}
	if sum, e := coins.Total(l); sum != a || e != api.OK {
		t.Fatal(a, parts, l, "adds up to", sum, e)
	}
	if l[0]-l[parts-1] > 1 || l[0] < l[parts-1] {
		t.Fatal(a, parts, l, "differ")
	}
	for i := 1; i < parts; i++ {
		if l[i] > l[i-1] {
			t.Fatal(a, parts, l, "ascends")
		}
	}
}

func TestTextP1_1(t *testing.T) {
	for _, x := range []struct {
		a      int64
		digits int
		want   string
	}{
		{-5, 2, "-0.05"},
		{0, 0, "0"},
		{0, 2, "0.00"},
		{5, 0, "5"},
		{-5, 0, "-5"},
		{12, 1, "1.2"},
		{123456, 2, "1234.56"},
		{123456, 6, "0.123456"},
		{1234567, 6, "1.234567"},
		{99, 2, "0.99"},
		{100, 2, "1.00"},
		{-100, 2, "-1.00"},
		{5, -1, "5"},
		{5, low, "5"},
		{5, 7, "0.000005"},
		{5, top, "0.000005"},
		{top, 0, "9223372036854775807"},
		{low, 0, "-9223372036854775808"},
		{low, 6, "-9223372036854.775808"},
		{top, 3, "9223372036854775.807"},
	} {
		if got := coins.Text(x.a, x.digits); got != x.want {
			t.Errorf("%d with %d digits: %q", x.a, x.digits, got)
		}
	}
}

func TestReadBackP1_2(t *testing.T) {
	for _, a := range edges() {
		for digits := -2; digits <= 8; digits++ {
			if got, e := coins.Read(coins.Text(a, digits), digits); got != a || e != api.OK {
				t.Error(a, digits, got, e)
			}
		}
	}
}

func TestReadRefusesP1_1(t *testing.T) {
	for digits, l := range map[int][]string{
		-1: {"", "-", "+5", "05", "-0", "5.", "1.0", " 5", "5 ", "1_0", "0x5", "9223372036854775808", "-9223372036854775809", "a"},
		0:  {"", "-", "+5", "05", "-0", "00", "5.", ".5", "--5", "1e3", "99999999999999999999"},
		2:  {"", ".", "5", "5.0", ".05", "-.05", "00.05", "-0.00", "0.0x", "1..23", "+1.00", "1.2.3", "12.345", "0,05", "1.+5", "1.-5", "-1.-5", "92233720368547758.08"},
		6:  {"0.05", "0.0000005", "0.00000"},
		9:  {"0.000000005"},
	} {
		for _, s := range l {
			if got, e := coins.Read(s, digits); got != 0 || e != api.ErrBytes {
				t.Errorf("%q with %d digits: %d, %d", s, digits, got, e)
			}
		}
	}
	if got, e := coins.Read(strings.Repeat("9", 5000), 3); got != 0 || e != api.ErrBytes {
		t.Error(got, e)
	}
}

func TestBetweenP1_1(t *testing.T) {
	for _, x := range [][4]int64{
		{5, 1, 9, 5}, {0, 1, 9, 1}, {10, 1, 9, 9}, {1, 1, 9, 1}, {9, 1, 9, 9},
		{5, 9, 3, 9}, {1, 9, 3, 9}, {20, 9, 3, 9}, {4, 4, 4, 4}, {low, 4, 4, 4},
		{low, low, top, low}, {top, low, top, top}, {0, top, low, top},
	} {
		if got := coins.Between(x[0], x[1], x[2]); got != x[3] {
			t.Error(x, got)
		}
	}
}

func TestLessUndoesAddP1_2(t *testing.T) {
	for _, a := range edges() {
		for _, b := range edges() {
			c, e := coins.Add(a, b)
			if e != api.OK {
				continue
			}
			if back, e := coins.Less(c, b); back != a || e != api.OK {
				t.Error(a, b, c, back, e)
			}
		}
	}
}
