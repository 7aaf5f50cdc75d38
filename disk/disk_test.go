package disk_test

import (
	"bytes"
	"fmt"
	"math"
	"math/rand"
	"testing"

	"countinghouse/api"
	"countinghouse/disk"
)

func check(t *testing.T, what string, d *disk.Disk, want string, sure, room int, broken bool) {
	t.Helper()
	if string(d.Bytes()) != want || d.Sure() != sure || d.Room() != room || d.Broken() != broken {
		t.Errorf("%s: %q, sure %d, room %d, broken %v", what, d.Bytes(), d.Sure(), d.Room(), d.Broken())
	}
}

func ok(t *testing.T, errs ...api.Errno) {
	t.Helper()
	for i, e := range errs {
		if e != api.OK {
			t.Error(i, e)
		}
	}
}

func TestNewP4_1(t *testing.T) {
	for _, x := range [][2]int{{0, 0}, {-1, 0}, {math.MinInt, 0}, {5, 5}, {65535, 65535}, {65536, 65536}, {65537, 65536}, {math.MaxInt, 65536}} {
		check(t, fmt.Sprint(x), disk.New(x[0]), "", 0, x[1], false)
	}
}

func TestAppendP4_1(t *testing.T) {
	d := disk.New(5)
	ok(t, d.Append([]byte("abc")))
	check(t, "abc", d, "abc", 0, 2, false)
	if e := d.Append([]byte("def")); e != api.ErrFull {
		t.Error(e)
	}
	check(t, "nothing of def", d, "abc", 0, 2, false)
	ok(t, d.Append([]byte("de")), d.Append(nil))
	check(t, "full", d, "abcde", 0, 0, false)
	if e := d.Append([]byte("f")); e != api.ErrFull {
		t.Error(e)
	}
	ok(t, d.Sync())
	check(t, "sure", d, "abcde", 5, 0, false)
	d.Break()
	for i, e := range []api.Errno{d.Append(nil), d.Append([]byte("too long")), d.Sync(), d.Cut(0), d.Cut(-1), d.Cut(9)} {
		if e != api.ErrDown {
			t.Error(i, e)
		}
	}
	check(t, "broken", d, "abcde", 5, 0, true)
}

func TestUpP4_1P4_2(t *testing.T) {
	for i, x := range []struct {
		keep  int
		spoil []disk.Spoil
		want  string
	}{
		{1, nil, "abc"},
		{0, nil, "ab"},
		{-1, nil, "ab"},
		{math.MinInt, nil, "ab"},
		{4, nil, "abcdef"},
		{5, nil, "abcdef"},
		{math.MaxInt, nil, "abcdef"},
		{4, []disk.Spoil{{0, 'X'}, {3, 'Y'}}, "abXdeY"},
		{4, []disk.Spoil{{1, 'X'}, {1, 'Y'}}, "abcYef"},
		{4, []disk.Spoil{{-1, 'X'}, {-2, 'X'}, {4, 'X'}, {math.MaxInt, 'X'}, {math.MinInt, 'X'}}, "abcdef"},
		{2, []disk.Spoil{{2, 'X'}, {1, 'Y'}}, "abcY"},
		{0, []disk.Spoil{{0, 'X'}}, "ab"},
	} {
		d := disk.New(10)
		ok(t, d.Append([]byte("ab")), d.Sync(), d.Append([]byte("cd")), d.Append([]byte("ef")))
		d.Break()
		d.Break()
		d.Up(x.keep, x.spoil)
		check(t, fmt.Sprint(i), d, x.want, len(x.want), 10-len(x.want), false)
		ok(t, d.Append([]byte("z")))
		check(t, fmt.Sprint(i, "z"), d, x.want+"z", len(x.want), 9-len(x.want), false)
	}
}

func TestUpOfWholeDiskP4_1(t *testing.T) {
	d := disk.New(10)
	ok(t, d.Append([]byte("ab")), d.Sync(), d.Append([]byte("cd")))
	d.Up(1, []disk.Spoil{{0, 'X'}})
	check(t, "not broken before", d, "abX", 3, 7, false)
}

func TestCutP4_1(t *testing.T) {
	d := disk.New(10)
	ok(t, d.Append([]byte("abcdef")))
	for _, n := range []int{-1, 7, math.MaxInt, math.MinInt} {
		if e := d.Cut(n); e != api.ErrRange {
			t.Error(n, e)
		}
	}
	check(t, "no cut", d, "abcdef", 0, 4, false)
	ok(t, d.Cut(6))
	check(t, "all", d, "abcdef", 6, 4, false)
	ok(t, d.Append([]byte("gh")), d.Cut(7))
	check(t, "behind the durable ones", d, "abcdefg", 7, 3, false)
	ok(t, d.Cut(2))
	check(t, "of the durable ones", d, "ab", 2, 8, false)
	ok(t, d.Append([]byte("xy")))
	check(t, "after the cut", d, "abxy", 2, 6, false)
	ok(t, d.Cut(0))
	check(t, "none", d, "", 0, 10, false)
}

func TestNilDiskP4_1(t *testing.T) {
	var d *disk.Disk
	d.Break()
	d.Up(5, []disk.Spoil{{0, 1}})
	for i, e := range []api.Errno{d.Append(nil), d.Sync(), d.Cut(0)} {
		if e != api.ErrDown {
			t.Error(i, e)
		}
	}
	check(t, "nil", d, "", 0, 0, true)
}

func TestDiskHasItsOwnBytesP4_1(t *testing.T) {
	d := disk.New(10)
	b := []byte("abc")
	ok(t, d.Append(b))
	clear(b)
	clear(d.Bytes())
	_ = append(d.Bytes(), 'x')
	check(t, "own", d, "abc", 0, 7, false)
	before := d.Bytes()
	d.Up(3, []disk.Spoil{{0, 'X'}})
	ok(t, d.Cut(1), d.Append([]byte("YZ")))
	if string(before) != "abc" {
		t.Errorf("%q", before)
	}
}

// model is a disk as two strings.
type model struct {
	sure, unsure string
	broken       bool
}

func TestAnySequenceP4_1P4_2(t *testing.T) {
	r := rand.New(rand.NewSource(4))
	for range 300 {
		d, m := disk.New(40), model{}
		for range 60 {
			durable := d.Bytes()[:d.Sure()]
			cut := step(t, r, d, &m)
			check(t, "step", d, m.sure+m.unsure, len(m.sure), 40-len(m.sure+m.unsure), m.broken)
			if !cut && !bytes.HasPrefix(d.Bytes(), durable) {
				t.Fatal("durable bytes are lost")
			}
		}
	}
}

func step(t *testing.T, r *rand.Rand, d *disk.Disk, m *model) bool {
	t.Helper()
	n := r.Intn(8)
	switch kind := r.Intn(10); {
	case kind < 5:
		b := make([]byte, n)
		r.Read(b)
		want := api.OK
		if m.broken {
			want = api.ErrDown
		} else if len(m.sure+m.unsure)+n > 40 {
			want = api.ErrFull
		} else {
			m.unsure += string(b)
		}
		if e := d.Append(b); e != want {
			t.Fatal(e, want)
		}
	case kind < 7:
		if e := d.Sync(); (e == api.ErrDown) != m.broken {
			t.Fatal(e)
		}
		if !m.broken {
			m.sure, m.unsure = m.sure+m.unsure, ""
		}
	case kind < 8:
		d.Break()
		m.broken = true
	case kind < 9:
		kept := []byte(m.unsure[:min(n, len(m.unsure))])
		s := disk.Spoil{At: r.Intn(9) - 2, B: byte(n)}
		if s.At >= 0 && s.At < len(kept) {
			kept[s.At] = s.B
		}
		d.Up(n, []disk.Spoil{s})
		*m = model{sure: m.sure + string(kept)}
	default:
		all := m.sure + m.unsure
		e := d.Cut(n)
		if m.broken != (e == api.ErrDown) || !m.broken && (n > len(all)) != (e == api.ErrRange) {
			t.Fatal(e)
		}
		if e == api.OK {
			*m = model{sure: all[:n]}
		}
		return true
	}
	return false
}
