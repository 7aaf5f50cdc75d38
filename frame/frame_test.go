package frame_test

import (
	"bytes"
	"hash/crc32"
	"slices"
	"testing"

	"countinghouse/api"
	"countinghouse/frame"
)

func sample(n int) []byte {
	b := make([]byte, n)
	for i := range b {
		b[i] = byte(i*i + 3*n + i>>8)
	}
	return b
}

func mustFrame(t *testing.T, b []byte) []byte {
	t.Helper()
	f, e := frame.Frame(b)
	if e != api.OK {
		t.Fatal(len(b), e)
	}
	return f
}

func TestSumP3_1(t *testing.T) {
	if got := frame.Sum([]byte("123456789")); got != 3421780262 {
		t.Error(got)
	}
	if got := frame.Sum(nil); got != 0 {
		t.Error(got)
	}
	for n := range 300 {
		if got := frame.Sum(sample(n)); got != crc32.ChecksumIEEE(sample(n)) {
			t.Error(n, got)
		}
	}
	for c := range 256 {
		if got := frame.Sum([]byte{byte(c)}); got != crc32.ChecksumIEEE([]byte{byte(c)}) {
			t.Error(c, got)
		}
	}
}

func TestFrameP3_1(t *testing.T) {
	f := mustFrame(t, []byte("123456789"))
	want := append([]byte{9, 0, 0x26, 0x39, 0xf4, 0xcb}, "123456789"...)
	if !bytes.Equal(f, want) {
		t.Error(f)
	}
	for _, n := range []int{1, 255, 256, 257, 4095, 4096} {
		f := mustFrame(t, sample(n))
		h := crc32.ChecksumIEEE(sample(n))
		want := append([]byte{byte(n), byte(n >> 8), byte(h), byte(h >> 8), byte(h >> 16), byte(h >> 24)}, sample(n)...)
		if !bytes.Equal(f, want) {
			t.Error(n, f)
		}
	}
	for _, n := range []int{0, 4097, 65536 + 5} {
		if f, e := frame.Frame(make([]byte, n)); len(f) != 0 || e != api.ErrArg {
			t.Error(n, len(f), e)
		}
	}
}

func TestWrapP3_1(t *testing.T) {
	if f, e := frame.Wrap(nil); len(f) != 0 || e != api.OK {
		t.Error(f, e)
	}
	l := [][]byte{sample(5), sample(4096), sample(1)}
	want := slices.Concat(mustFrame(t, l[0]), mustFrame(t, l[1]), mustFrame(t, l[2]))
	if f, e := frame.Wrap(l); !bytes.Equal(f, want) || e != api.OK {
		t.Error(len(f), e)
	}
	for _, l := range [][][]byte{{nil}, {sample(3), {}}, {sample(4097), sample(3)}, {sample(3), sample(4097)}} {
		if f, e := frame.Wrap(l); len(f) != 0 || e != api.ErrArg {
			t.Error(len(f), e)
		}
	}
}

func TestScanP3_1P3_2(t *testing.T) {
	if l, n, e := frame.Scan(nil); len(l) != 0 || n != 0 || e != api.OK {
		t.Error(l, n, e)
	}
	data := [][]byte{sample(3), sample(1), sample(300), sample(2)}
	b, _ := frame.Wrap(data)
	ends := []int{0}
	for _, d := range data {
		ends = append(ends, ends[len(ends)-1]+6+len(d))
	}
	for cut := range len(b) + 1 {
		whole := 0
		for whole < len(data) && ends[whole+1] <= cut {
			whole++
		}
		want := api.ErrTorn
		if cut == ends[whole] {
			want = api.OK
		}
		l, n, e := frame.Scan(b[:cut])
		if len(l) != whole || n != ends[whole] || e != want {
			t.Fatal(cut, len(l), n, e)
		}
		for i := range l {
			if !bytes.Equal(l[i], data[i]) {
				t.Fatal(cut, i, l[i])
			}
		}
	}
}

func TestScanErrorsP3_1(t *testing.T) {
	good := mustFrame(t, []byte("abc"))
	bad := slices.Clone(good)
	bad[8]++
	for i, x := range []struct {
		then []byte
		e    api.Errno
	}{
		{[]byte{0}, api.ErrTorn},
		{[]byte{9}, api.ErrTorn},
		{[]byte{255}, api.ErrTorn},
		{[]byte{0, 0}, api.ErrBytes},
		{[]byte{0, 0, 0, 0, 0, 0}, api.ErrBytes},
		{[]byte{1, 16}, api.ErrBytes},
		{[]byte{255, 255, 1, 2, 3}, api.ErrBytes},
		{[]byte{0, 16}, api.ErrTorn},
		{[]byte{1, 0}, api.ErrTorn},
		{[]byte{1, 0, 5, 5, 5, 5}, api.ErrTorn},
		{[]byte{1, 0, 5, 5, 5, 5, 5}, api.ErrBytes},
		{bad[:8], api.ErrTorn},
		{bad, api.ErrBytes},
		{append(slices.Clone(bad), good...), api.ErrBytes},
		{append([]byte{0}, good...), api.ErrTorn},
	} {
		for _, before := range [][]byte{nil, good, slices.Concat(good, good)} {
			b := append(slices.Clone(before), x.then...)
			l, n, e := frame.Scan(b)
			if len(l) != len(before)/len(good) || n != len(before) || e != x.e {
				t.Error(i, len(before), len(l), n, e)
			}
		}
	}
}

func TestChangedBitP3_2(t *testing.T) {
	for _, size := range []int{1, 2, 40} {
		f := mustFrame(t, sample(size))
		for bit := 16; bit < 8*len(f); bit++ {
			f[bit/8] ^= 1 << (bit % 8)
			if l, n, e := frame.Scan(f); len(l) != 0 || n != 0 || e != api.ErrBytes {
				t.Error(size, bit, l, n, e)
			}
			f[bit/8] ^= 1 << (bit % 8)
		}
	}
}

func TestScanGivesNewMemoryP3_1(t *testing.T) {
	b, _ := frame.Wrap([][]byte{sample(4), sample(4)})
	before := slices.Clone(b)
	l, _, _ := frame.Scan(b)
	for _, d := range l {
		_ = append(d, 1, 2, 3, 4)
		clear(d)
	}
	if !bytes.Equal(b, before) {
		t.Error("the argument has changed")
	}
	l, _, _ = frame.Scan(b)
	clear(b)
	if !bytes.Equal(l[0], sample(4)) || !bytes.Equal(l[1], sample(4)) {
		t.Error("the result shares memory with the argument")
	}
}
