package ratio_test

import (
	"math"
	"math/big"
	"math/rand"
	"slices"
	"testing"

	"countinghouse/api"
	"countinghouse/coins"
	"countinghouse/ratio"
)

const (
	top = math.MaxInt64
	low = math.MinInt64
)

func nan() float64 { return math.NaN() }

func inf() float64 { return math.Inf(1) }

// same is true of two NaNs, and tells -0 from 0.
func same(a, b float64) bool {
	return math.Float64bits(a) == math.Float64bits(b) || math.IsNaN(a) && math.IsNaN(b)
}

func TestOfP19_1(t *testing.T) {
	for _, x := range []struct {
		a, b int64
		want float64
	}{
		{1, 4, 0.25}, {-1, 4, -0.25}, {1, 3, 1.0 / 3}, {0, 5, 0}, {0, -5, math.Copysign(0, -1)},
		{1, 0, inf()}, {-1, 0, -inf()}, {0, 0, nan()}, {top, 1, 1 << 63}, {low, 1, -1 << 63},
		{1<<53 + 1, 1, 1 << 53}, {top, top, 1}, {low, -1, 1 << 63}, {7, 2, 3.5},
	} {
		if got := ratio.Of(x.a, x.b); !same(got, x.want) {
			t.Error(x, got)
		}
	}
}

func TestTimesP19_1(t *testing.T) {
	for _, x := range []struct {
		a    int64
		x    float64
		want int64
		e    api.Errno
	}{
		{5, 0.5, 2, api.OK},
		{7, 0.5, 4, api.OK},
		{-5, 0.5, -2, api.OK},
		{-7, 0.5, -4, api.OK},
		{1, 0.5, 0, api.OK},
		{3, 0.5, 2, api.OK},
		{-1, 0.5, 0, api.OK},
		{10, 0.26, 3, api.OK},
		{10, 0.24, 2, api.OK},
		{3, 1.0 / 3, 1, api.OK},
		{0, 5, 0, api.OK},
		{5, math.Copysign(0, -1), 0, api.OK},
		{0, nan(), 0, api.ErrRange},
		{5, nan(), 0, api.ErrRange},
		{0, inf(), 0, api.ErrRange},
		{5, inf(), 0, api.ErrRange},
		{5, -inf(), 0, api.ErrRange},
		{1, 1 << 62, 1 << 62, api.OK},
		{1, 1 << 63, 0, api.ErrRange},
		{1, -1 << 63, low, api.OK},
		{-1, 1 << 63, low, api.OK},
		{1, math.Nextafter(1<<63, 0), top - 1023, api.OK},
		{1, math.Nextafter(-1<<63, -inf()), 0, api.ErrRange},
		{top, 1, 0, api.ErrRange},
		{top - 511, 1, 0, api.ErrRange},
		{top - 512, 1, top - 1023, api.OK},
		{low, 1, low, api.OK},
		{low, -1, 0, api.ErrRange},
		{1<<53 + 1, 1, 1 << 53, api.OK},
		{1<<53 + 3, 1, 1<<53 + 4, api.OK},
		{1, 1e300, 0, api.ErrRange},
		{top, math.MaxFloat64, 0, api.ErrRange},
		{1, 0.49999999999999994, 0, api.OK},
		{1, 4503599627370497.5, 4503599627370498, api.OK},
		{1, 4503599627370496.5, 4503599627370496, api.OK},
	} {
		if got, e := ratio.Times(x.a, x.x); got != x.want || e != x.e {
			t.Error(x, got, e)
		}
	}
}

func TestTimesExactlyP19_1(t *testing.T) {
	r := rand.New(rand.NewSource(19))
	for range 20000 {
		a := int64(r.Uint64()) >> r.Intn(64)
		x := math.Float64frombits(r.Uint64())
		if r.Intn(2) == 0 {
			x = r.NormFloat64() * math.Ldexp(1, r.Intn(80)-40)
		}
		p := float64(a) * x
		got, e := ratio.Times(a, x)
		if math.IsNaN(p) || math.IsInf(p, 0) {
			if got != 0 || e != api.ErrRange {
				t.Fatal(a, x, got, e)
			}
			continue
		}
		// The nearest integer, the even one of two.
		exact := new(big.Rat)
		exact.SetFloat64(p)
		n := new(big.Int).Div(exact.Num(), exact.Denom())
		rest := new(big.Rat).Sub(exact, new(big.Rat).SetInt(n))
		if c := rest.Cmp(big.NewRat(1, 2)); c > 0 || c == 0 && n.Bit(0) == 1 {
			n.Add(n, big.NewInt(1))
		}
		if n.IsInt64() != (e == api.OK) || e == api.OK && n.Int64() != got || e != api.OK && (got != 0 || e != api.ErrRange) {
			t.Fatal(a, x, got, e, n)
		}
	}
}

func TestChangeP19_1(t *testing.T) {
	for i, x := range []struct {
		l    []int64
		x    float64
		want []int64
		off  int64
		e    api.Errno
	}{
		{nil, nan(), nil, 0, api.OK},
		{[]int64{}, inf(), nil, 0, api.OK},
		{[]int64{5, 7, 1}, 0.5, []int64{2, 4, 0}, 0, api.OK},
		{[]int64{1, 1, 1}, 0.5, []int64{0, 0, 0}, -2, api.OK},
		{[]int64{3, 3, 3}, 0.5, []int64{2, 2, 2}, 2, api.OK},
		{[]int64{-1, -1, -1}, 0.5, []int64{0, 0, 0}, 2, api.OK},
		{[]int64{10, 20}, 1.1, []int64{11, 22}, 0, api.OK},
		{[]int64{5}, nan(), nil, 0, api.ErrRange},
		{[]int64{top, 1}, nan(), nil, 0, api.ErrRange},
		{[]int64{1, top, top}, 1, nil, 0, api.ErrRange},
		{[]int64{top, 1}, 0.5, nil, 0, api.ErrOver},
		{[]int64{low, -1}, 0, nil, 0, api.ErrOver},
		{[]int64{1 << 61, 1 << 61, 5}, 2, nil, 0, api.ErrOver},
		{[]int64{1 << 62, 1 << 62, low, -5}, 1, []int64{1 << 62, 1 << 62, low, -5}, 0, api.OK},
	} {
		got, off, e := ratio.Change(x.l, x.x)
		if !slices.Equal(got, x.want) || off != x.off || e != x.e {
			t.Error(i, got, off, e)
		}
	}
}

// The total may be rounded to what is no sum, though all elements and their totals are sums.
func TestChangeOfTotalP19_1(t *testing.T) {
	l := []int64{1 << 62, 1<<62 - 1024, 1000}
	if got, off, e := ratio.Change(l, 1); len(got) != 0 || off != 0 || e != api.ErrRange {
		t.Error(got, off, e)
	}
}

func TestChangeByDefinitionP19_1(t *testing.T) {
	r := rand.New(rand.NewSource(20))
	counts := map[api.Errno]int{}
	for range 20000 {
		l := make([]int64, 1+r.Intn(4))
		for i := range l {
			l[i] = int64(r.Uint64()) >> r.Intn(40)
		}
		x := r.NormFloat64() * math.Ldexp(1, r.Intn(6)-3)
		want, off, e := change(l, x)
		got, gotOff, gotE := ratio.Change(l, x)
		if !slices.Equal(got, want) || gotOff != off || gotE != e {
			t.Fatal(l, x, got, gotOff, gotE, want, off, e)
		}
		counts[e]++
	}
	if len(counts) != 3 {
		t.Error(counts)
	}
}

func change(l []int64, x float64) ([]int64, int64, api.Errno) {
	var changed []int64
	for _, a := range l {
		b, e := ratio.Times(a, x)
		if e != api.OK {
			return nil, 0, api.ErrRange
		}
		changed = append(changed, b)
	}
	before, e := coins.Total(l)
	after, f := coins.Total(changed)
	if e != api.OK || f != api.OK {
		return nil, 0, api.ErrOver
	}
	want, e := ratio.Times(before, x)
	if e != api.OK {
		return nil, 0, api.ErrRange
	}
	off, e := coins.Less(after, want)
	if e != api.OK {
		return nil, 0, api.ErrOver
	}
	return changed, off, api.OK
}

func TestMeanP19_1(t *testing.T) {
	tiny := math.SmallestNonzeroFloat64
	for i, x := range []struct {
		l    []int64
		w    []float64
		want float64
		ok   bool
	}{
		{nil, nil, 0, false},
		{[]int64{5}, nil, 0, false},
		{nil, []float64{5}, 0, false},
		{[]int64{5}, []float64{2}, 5, true},
		{[]int64{1, 2}, []float64{1, 3}, 1.75, true},
		{[]int64{1, 2, 100}, []float64{1, 3}, 1.75, true},
		{[]int64{1, 2}, []float64{1, 3, 100}, 1.75, true},
		{[]int64{9, 1, 9, 2, 9, 9}, []float64{0, 1, -1, 3, nan(), inf()}, 1.75, true},
		{[]int64{9, 9}, []float64{-inf(), math.Copysign(0, -1)}, 0, false},
		{[]int64{0}, []float64{1}, 0, true},
		{[]int64{-4, 4}, []float64{1, 1}, 0, true},
		{[]int64{top}, []float64{math.MaxFloat64}, 0, false},
		{[]int64{low}, []float64{math.MaxFloat64}, 0, false},
		{[]int64{1, 1}, []float64{math.MaxFloat64, math.MaxFloat64}, 0, false},
		{[]int64{top, low}, []float64{math.MaxFloat64, math.MaxFloat64}, 0, false},
		{[]int64{0, 0}, []float64{math.MaxFloat64, math.MaxFloat64}, 0, true},
		{[]int64{3}, []float64{tiny}, 3, true},
		{[]int64{top}, []float64{1}, 1 << 63, true},
		{[]int64{1 << 53, 1, 1}, []float64{1, 1, 1}, float64(1<<53) / 3, true},
		{[]int64{1, 1, 1 << 53}, []float64{1, 1, 1}, float64(1<<53+2) / 3, true},
		{[]int64{1, 1, 1}, []float64{0.1, 0.2, 0.3}, sum(0.1, 0.2, 0.3) / sum(0.1, 0.2, 0.3), true},
		{[]int64{3, 7, 9}, []float64{0.1, 0.2, 0.3}, sum(product(3, 0.1), product(7, 0.2), product(9, 0.3)) / sum(0.1, 0.2, 0.3), true},
	} {
		if got, ok := ratio.Mean(x.l, x.w); !same(got, x.want) || ok != x.ok {
			t.Error(i, got, ok)
		}
	}
}

func product(a, b float64) float64 { return a * b }

func sum(l ...float64) float64 {
	s := 0.0
	for _, x := range l {
		s += x
	}
	return s
}

func TestNearP19_1(t *testing.T) {
	most := math.MaxFloat64
	for i, x := range []struct {
		a, b, part float64
		want       bool
	}{
		{100, 101, 0.01, true}, {101, 100, 0.01, true}, {100, 101, 0.009, false}, {-100, -101, 0.01, true},
		{100, -100, 1.9, false}, {100, -100, 2, true}, {0, 0, 0, true}, {0, 1, 0.5, false}, {0, 1, 1, true}, {5, 5, 0, true},
		{0, math.Copysign(0, -1), 0, true}, {5, 5, -1, false}, {0, 0, -1, true},
		{nan(), 5, 1, false}, {5, nan(), 1, false}, {nan(), nan(), inf(), false}, {nan(), inf(), 1, false}, {inf(), nan(), 1, false},
		{inf(), inf(), 0, true}, {-inf(), -inf(), 0, true}, {inf(), -inf(), inf(), false}, {inf(), 5, inf(), false}, {5, -inf(), inf(), false}, {-inf(), 5, 1, false}, {5, inf(), 1, false},
		{inf(), inf(), nan(), true}, {5, 5, nan(), false}, {5, 900, inf(), true},
		{most, -most, 1, false}, {most, -most, 3, true}, {1, 1 + 1e-15, 1e-16, false},
	} {
		if ratio.Near(x.a, x.b, x.part) != x.want {
			t.Error(i, "is not", x.want)
		}
	}
}

func TestShowP19_1(t *testing.T) {
	for _, x := range []struct {
		x    float64
		want string
	}{
		{1.0005, "1.000"}, {0, "0.000"}, {math.Copysign(0, -1), "0.000"}, {1, "1.000"}, {-1.5, "-1.500"}, {0.0015, "0.002"}, {0.0025, "0.002"},
		{-0.0004, "0.000"}, {-0.0006, "-0.001"}, {1234567.891, "1234567.891"}, {nan(), "nan"}, {inf(), "inf"}, {-inf(), "-inf"},
		{1e15, "1000000000000000.000"}, {1e16, "far"}, {-1e16, "far"}, {math.MaxFloat64, "far"}, {-math.MaxFloat64, "far"}, {math.SmallestNonzeroFloat64, "0.000"},
		{-9223372036854775.808, "-9223372036854775.808"}, {9223372036854775.808, "far"}, {1.0 / 3, "0.333"}, {2.0 / 3, "0.667"},
	} {
		if got := ratio.Show(x.x); got != x.want {
			t.Error(x.x, got)
		}
	}
}

func TestTimesOneP19_2(t *testing.T) {
	r := rand.New(rand.NewSource(21))
	for range 5000 {
		a := int64(r.Uint64()) >> (10 + r.Intn(54))
		if got, e := ratio.Times(a, 1); got != a || e != api.OK {
			t.Fatal(a, got, e)
		}
	}
	for _, a := range []int64{1 << 53, -1 << 53, 1<<53 - 1, 0} {
		if got, e := ratio.Times(a, 1); got != a || e != api.OK {
			t.Error(a, got, e)
		}
	}
}

func TestChangedTotalP19_2(t *testing.T) {
	r := rand.New(rand.NewSource(22))
	for range 5000 {
		l := make([]int64, 1+r.Intn(20))
		for i := range l {
			l[i] = int64(r.Uint64()) >> (24 + r.Intn(40))
		}
		_, off, e := ratio.Change(l, r.NormFloat64())
		if e != api.OK || 2*max(off, -off) > int64(len(l)+1) {
			t.Fatal(l, off, e)
		}
	}
}
