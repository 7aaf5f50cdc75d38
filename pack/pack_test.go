package pack_test

import (
	"bytes"
	"math"
	"slices"
	"strings"
	"testing"

	"countinghouse/api"
	"countinghouse/pack"
)

// numbers are numbers around every change of an encoding's size.
func numbers() []int64 {
	l := []int64{math.MaxInt64, math.MinInt64, math.MaxInt64 - 1, math.MinInt64 + 1}
	for bit := range 63 {
		for d := int64(-2); d <= 2; d++ {
			l = append(l, int64(1)<<bit+d, -(int64(1)<<bit)+d)
		}
	}
	return l
}

func repeat(b byte, n int, then ...byte) []byte {
	return append(bytes.Repeat([]byte{b}, n), then...)
}

func TestEncodingsP2_1(t *testing.T) {
	for _, x := range []struct{ got, want []byte }{
		{pack.Num(0), []byte{0}},
		{pack.Num(-1), []byte{1}},
		{pack.Num(1), []byte{2}},
		{pack.Num(63), []byte{126}},
		{pack.Num(-64), []byte{127}},
		{pack.Num(64), []byte{128, 1}},
		{pack.Num(-65), []byte{129, 1}},
		{pack.Num(8191), []byte{254, 127}},
		{pack.Num(8192), []byte{128, 128, 1}},
		{pack.Num(math.MaxInt64), append([]byte{254}, repeat(255, 8, 1)...)},
		{pack.Num(math.MinInt64), repeat(255, 9, 1)},
		{pack.Text(""), []byte{0}},
		{pack.Text("ab"), []byte{4, 97, 98}},
		{pack.Text("é"), []byte{4, 195, 169}},
		{pack.Text("\xff\x00"), []byte{4, 255, 0}},
		{pack.Nums(nil), []byte{0}},
		{pack.Nums([]int64{}), []byte{0}},
		{pack.Nums([]int64{-1, 64, 0}), []byte{6, 1, 128, 1, 0}},
	} {
		if !bytes.Equal(x.got, x.want) {
			t.Error(x.got, x.want)
		}
	}
	long := strings.Repeat("x", 100)
	if got := pack.Text(long); !bytes.Equal(got, append([]byte{200, 1}, long...)) {
		t.Error(got)
	}
}

func TestNumReadBackP2_2(t *testing.T) {
	for _, n := range numbers() {
		b := pack.Num(n)
		r := pack.New(append(b, 7))
		if got, e := r.Num(); got != n || e != api.OK || r.Left() != 1 {
			t.Error(n, got, e, r.Left())
		}
	}
}

func TestNumErrorsP2_1(t *testing.T) {
	for i, x := range []struct {
		b []byte
		e api.Errno
	}{
		{nil, api.ErrTorn},
		{[]byte{}, api.ErrTorn},
		{[]byte{128}, api.ErrTorn},
		{[]byte{255, 128}, api.ErrTorn},
		{repeat(128, 9), api.ErrTorn},
		{repeat(128, 10), api.ErrTorn},
		{repeat(255, 10), api.ErrTorn},
		{repeat(128, 11), api.ErrBytes},
		{repeat(255, 10, 0), api.ErrBytes},
		{repeat(128, 10, 1), api.ErrBytes},
		{repeat(128, 40), api.ErrBytes},
		{[]byte{128, 0}, api.ErrBytes},
		{[]byte{129, 0}, api.ErrBytes},
		{[]byte{255, 128, 0, 5}, api.ErrBytes},
		{repeat(128, 9, 0), api.ErrBytes},
		{repeat(255, 9, 2), api.ErrBytes},
		{repeat(128, 9, 127), api.ErrBytes},
	} {
		r := pack.New(x.b)
		if n, e := r.Num(); n != 0 || e != x.e {
			t.Error(i, n, e)
		}
		sticks(t, r, x.e)
	}
	if n, e := pack.New(repeat(128, 9, 1)).Num(); n != 1<<62 || e != api.OK {
		t.Error(n, e)
	}
}

// sticks checks that the reader keeps to its error, and has nothing left.
func sticks(t *testing.T, r *pack.Reader, want api.Errno) {
	t.Helper()
	for range 2 {
		if r.Left() != 0 {
			t.Error("left", r.Left())
		}
		if n, e := r.Num(); n != 0 || e != want {
			t.Error("Num", n, e, want)
		}
		if n, e := r.Range(0, 5); n != 0 || e != want {
			t.Error("Range", n, e, want)
		}
		if s, e := r.Text(5); s != "" || e != want {
			t.Error("Text", s, e, want)
		}
		if l, e := r.Nums(5); len(l) != 0 || e != want {
			t.Error("Nums", l, e, want)
		}
		if e := r.Done(); e != want {
			t.Error("Done", e, want)
		}
	}
}

func TestRangeP2_1(t *testing.T) {
	for i, x := range []struct {
		n, lo, hi int64
		e         api.Errno
	}{
		{5, 1, 9, api.OK}, {1, 1, 9, api.OK}, {9, 1, 9, api.OK},
		{0, 1, 9, api.ErrBytes}, {10, 1, 9, api.ErrBytes}, {5, 9, 1, api.ErrBytes},
		{math.MinInt64, math.MinInt64, math.MaxInt64, api.OK},
		{-1, 0, math.MaxInt64, api.ErrBytes},
	} {
		r := pack.New(append(pack.Num(x.n), 2))
		n, e := r.Range(x.lo, x.hi)
		if e != x.e || e == api.OK && n != x.n || e != api.OK && n != 0 {
			t.Error(i, n, e)
		}
		if e != api.OK {
			sticks(t, r, e)
		} else if m, e := r.Num(); m != 1 || e != api.OK {
			t.Error(i, m, e)
		}
	}
	r := pack.New([]byte{128, 0})
	if n, e := r.Range(5, 9); n != 0 || e != api.ErrBytes {
		t.Error(n, e)
	}
	r = pack.New(nil)
	if n, e := r.Range(5, 9); n != 0 || e != api.ErrTorn {
		t.Error(n, e)
	}
}

func TestTextP2_1(t *testing.T) {
	for i, x := range []struct {
		b    []byte
		most int
		want string
		e    api.Errno
	}{
		{pack.Text("ab"), 2, "ab", api.OK},
		{pack.Text("ab"), math.MaxInt, "ab", api.OK},
		{pack.Text(""), 0, "", api.OK},
		{pack.Text("a\xff\x00"), 3, "a\xff\x00", api.OK},
		{pack.Text("ab"), 1, "", api.ErrBytes},
		{pack.Text(""), -1, "", api.ErrBytes},
		{pack.Text("ab")[:2], 2, "", api.ErrTorn},
		{pack.Text("ab")[:1], 2, "", api.ErrTorn},
		{pack.Text("ab")[:1], 1, "", api.ErrBytes},
		{nil, 5, "", api.ErrTorn},
		{[]byte{128}, 5, "", api.ErrTorn},
		{[]byte{128, 0}, 5, "", api.ErrBytes},
		{pack.Num(-1), 5, "", api.ErrBytes},
		{pack.Num(math.MinInt64), math.MaxInt, "", api.ErrBytes},
		{pack.Num(math.MaxInt64), math.MaxInt, "", api.ErrTorn},
	} {
		r := pack.New(x.b)
		s, e := r.Text(x.most)
		if s != x.want || e != x.e {
			t.Errorf("%d: %q, %d", i, s, e)
		}
		if e != api.OK {
			sticks(t, r, e)
		} else if e := r.Done(); e != api.OK {
			t.Error(i, e)
		}
	}
}

func TestNumsP2_1(t *testing.T) {
	for i, x := range []struct {
		b    []byte
		most int
		want []int64
		e    api.Errno
	}{
		{pack.Nums([]int64{5, -6, math.MinInt64}), 3, []int64{5, -6, math.MinInt64}, api.OK},
		{pack.Nums(nil), 0, nil, api.OK},
		{pack.Nums([]int64{1, 2}), 1, nil, api.ErrBytes},
		{pack.Nums(nil), -1, nil, api.ErrBytes},
		{pack.Num(-1), 9, nil, api.ErrBytes},
		{nil, 9, nil, api.ErrTorn},
		{[]byte{129, 0}, 9, nil, api.ErrBytes},
		{[]byte{4, 2}, 9, nil, api.ErrTorn},
		{[]byte{4, 2, 128}, 9, nil, api.ErrTorn},
		{[]byte{4, 128, 0, 2}, 9, nil, api.ErrBytes},
		{[]byte{6, 2, 128, 0, 128}, 9, nil, api.ErrBytes},
		{pack.Num(math.MaxInt64), math.MaxInt, nil, api.ErrTorn},
	} {
		r := pack.New(x.b)
		l, e := r.Nums(x.most)
		if !slices.Equal(l, x.want) || e != x.e {
			t.Error(i, l, e)
		}
		if e != api.OK {
			sticks(t, r, e)
		}
	}
}

func TestDoneAndLeftP2_1(t *testing.T) {
	r := pack.New([]byte{2, 4, 97, 98, 9})
	if r.Left() != 5 {
		t.Error(r.Left())
	}
	if n, e := r.Num(); n != 1 || e != api.OK || r.Left() != 4 {
		t.Error(n, e, r.Left())
	}
	if s, e := r.Text(9); s != "ab" || e != api.OK || r.Left() != 1 {
		t.Error(s, e, r.Left())
	}
	if e := r.Done(); e != api.ErrBytes {
		t.Error(e)
	}
	r = pack.New([]byte{0})
	r.Num()
	if e := r.Done(); e != api.OK {
		t.Error(e)
	}
	if n, e := r.Num(); n != 0 || e != api.ErrTorn {
		t.Error(n, e)
	}
	sticks(t, r, api.ErrTorn)
	if e := pack.New(nil).Done(); e != api.OK {
		t.Error(e)
	}
}

func TestNilReaderP2_1(t *testing.T) {
	sticks(t, nil, api.ErrArg)
}

func TestReaderHasItsOwnBytesP2_1(t *testing.T) {
	b := []byte{2, 4, 97, 98}
	r := pack.New(b)
	clear(b)
	n, _ := r.Num()
	if s, e := r.Text(2); n != 1 || s != "ab" || e != api.OK || !bytes.Equal(b, make([]byte, 4)) {
		t.Error(n, s, e, b)
	}
}

// Whatever bytes are read, what was read is encoded as just those bytes.
func TestOneEncodingP2_2(t *testing.T) {
	values := []byte{0, 1, 2, 4, 127, 128, 129, 255}
	var all func(b []byte, left int)
	all = func(b []byte, left int) {
		checkBytes(t, b)
		if left == 0 {
			return
		}
		for _, v := range values {
			all(append(slices.Clone(b), v), left-1)
		}
	}
	all(nil, 5)
	for n := 8; n <= 11; n++ {
		for _, v := range []byte{128, 129, 255} {
			for last := range 256 {
				checkBytes(t, repeat(v, n, byte(last)))
			}
		}
	}
}

func checkBytes(t *testing.T, b []byte) {
	t.Helper()
	r := pack.New(b)
	if n, e := r.Num(); e == api.OK && !bytes.Equal(pack.Num(n), b[:len(b)-r.Left()]) {
		t.Fatal(b, n)
	}
	r = pack.New(b)
	if s, e := r.Text(3); e == api.OK && !bytes.Equal(pack.Text(s), b[:len(b)-r.Left()]) {
		t.Fatal(b, s)
	}
	r = pack.New(b)
	if l, e := r.Nums(3); e == api.OK && !bytes.Equal(pack.Nums(l), b[:len(b)-r.Left()]) {
		t.Fatal(b, l)
	}
}
