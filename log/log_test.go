package log_test

import (
	"bytes"
	"math/rand"
	"slices"
	"testing"

	"countinghouse/api"
	"countinghouse/disk"
	"countinghouse/frame"
	"countinghouse/log"
	"countinghouse/order"
	"countinghouse/pack"
)

func at(rep, num int) api.Inst { return api.Inst{Rep: rep, Num: num} }

func ask(seq int, acct string) api.Order {
	return api.Order{Id: api.Id{Client: 1, Seq: seq}, Kind: api.Ask, Acct: acct}
}

func entry(o api.Order, deps ...api.Inst) api.Entry { return api.Entry{Order: o, Deps: deps} }

func none(deps ...api.Inst) api.Entry { return api.Entry{None: true, Deps: deps} }

func record(i api.Inst, ballot, state, by int, e api.Entry) api.Record {
	return api.Record{Inst: i, Slot: api.Slot{Ballot: ballot, State: state, By: by, Entry: e}}
}

func deps(n int) []api.Inst {
	var l []api.Inst
	for i := range n {
		l = append(l, at(1+i/60, 9001+i))
	}
	return l
}

func biggest() api.Order {
	o := api.Order{Id: api.Id{Client: 9, Seq: 999}, Kind: api.Post, Period: 1000, Note: "twenty bytes of note"}
	for i, name := range []string{"abcdefgh", "abcdefgi", "abcdefgj", "abcdefgk", "abcdefgl", "abcdefgm"} {
		o.Legs = append(o.Legs, api.Leg{Acct: name, Sum: -1<<63 + int64(i)})
	}
	return o
}

func good() []api.Record {
	return []api.Record{
		record(at(0, 1), 0, api.Blank, 0, api.Entry{}),
		record(at(6, 10000), 1000000, api.Blank, 0, api.Entry{}),
		record(at(0, 1), 0, api.Heard, 0, entry(ask(1, "a"))),
		record(at(2, 3), 17, api.Agreed, 9, entry(ask(1, "a"), at(0, 1), at(2, 2))),
		record(at(2, 3), 17, api.Settled, 17, none()),
		record(at(2, 3), 17, api.Agreed, 0, none(at(2, 4), at(3, 1))),
		record(at(0, 1), 1000000, api.Settled, 1000000, entry(biggest(), deps(100)...)),
		record(at(0, 1), 1, api.Heard, 1, none()),
	}
}

func bad() []api.Record {
	a := entry(ask(1, "a"))
	return []api.Record{
		{},
		record(at(-1, 1), 0, api.Blank, 0, api.Entry{}),
		record(at(7, 1), 0, api.Blank, 0, api.Entry{}),
		record(at(0, 0), 1, api.Blank, 0, api.Entry{}),
		record(at(0, 10001), 0, api.Blank, 0, api.Entry{}),
		record(at(7, 1), 0, api.Heard, 0, a),
		record(at(0, 2), -1, api.Blank, 0, api.Entry{}),
		record(at(0, 1), -1, api.Heard, -1, a),
		record(at(0, 2), 1000001, api.Blank, 0, api.Entry{}),
		record(at(0, 1), 1000001, api.Heard, 1, a),
		record(at(0, 1), 5, -1, 0, a),
		record(at(0, 1), 5, -1, 0, api.Entry{}),
		record(at(0, 1), 5, 4, 0, a),
		record(at(0, 1), 5, api.Heard, 6, a),
		record(at(0, 1), 5, api.Heard, -1, a),
		record(at(0, 1), 5, api.Blank, 1, api.Entry{}),
		record(at(0, 1), 5, api.Blank, -1, api.Entry{}),
		record(at(0, 1), 5, api.Blank, 0, a),
		record(at(0, 1), 5, api.Blank, 0, none()),
		record(at(0, 1), 5, api.Blank, 0, api.Entry{Deps: deps(1)}),
		record(at(0, 1), 5, api.Heard, 0, api.Entry{}),
		record(at(0, 1), 5, api.Agreed, 0, entry(ask(0, "a"))),
		record(at(0, 1), 5, api.Agreed, 0, api.Entry{None: true, Order: ask(1, "a")}),
		record(at(0, 1), 5, api.Settled, 0, entry(ask(1, "a"), at(0, 1))),
		record(at(0, 1), 5, api.Settled, 0, none(at(2, 1), at(1, 1))),
		record(at(0, 1), 5, api.Settled, 0, none(at(2, 1), at(2, 1))),
		record(at(0, 1), 5, api.Settled, 0, none(at(2, 0))),
		record(at(0, 1), 5, api.Settled, 0, none(deps(101)...)),
		record(at(0, 1), 5, api.Heard, 0, entry(ask(1, "a"), deps(101)...)),
	}
}

// encode encodes any record, as the chapter says it of valid ones.
func encode(r api.Record) []byte {
	n := func(n int) []byte { return pack.Num(int64(n)) }
	s := r.Slot
	b := slices.Concat(n(r.Inst.Rep), n(r.Inst.Num), n(s.Ballot), n(s.State), n(s.By))
	if s.State == api.Blank {
		return b
	}
	if s.Entry.None {
		b = append(b, n(1)...)
	} else {
		o, _ := order.Bytes(s.Entry.Order)
		b = slices.Concat(b, n(0), pack.Text(string(o)))
	}
	b = append(b, n(len(s.Entry.Deps))...)
	for _, d := range s.Entry.Deps {
		b = slices.Concat(b, n(d.Rep), n(d.Num))
	}
	return b
}

func refuses(t *testing.T, b []byte) {
	t.Helper()
	if r, e := log.Read(b); e != api.ErrBytes || !log.Same([]api.Record{r}, []api.Record{{}}) {
		t.Errorf("%v: %+v, %d", b, r, e)
	}
}

func same(a, b api.Record) bool { return log.Same([]api.Record{a}, []api.Record{b}) }

func TestRightAndEncodingP15_1(t *testing.T) {
	for i, r := range good() {
		if !log.Right(r) {
			t.Error(i, "is not valid")
		}
		b, e := log.Bytes(r)
		if e != api.OK || !bytes.Equal(b, encode(r)) {
			t.Error(i, b, e)
		}
		if got, e := log.Read(b); e != api.OK || !same(got, r) {
			t.Error(i, got, e)
		}
	}
	for i, r := range bad() {
		if log.Right(r) {
			t.Error(i, "is valid")
		}
		if b, e := log.Bytes(r); len(b) != 0 || e != api.ErrArg {
			t.Error(i, b, e)
		}
		if wrong := r.Slot.Entry; r.Slot.State == api.Blank && r.Slot.By == 0 && r.Inst == at(0, 1) || wrong.None && wrong.Order.Kind != 0 {
			continue // what is wrong with it is not encoded
		}
		refuses(t, encode(r))
	}
}

func TestReadAcceptsOnlyEncodingsP15_1(t *testing.T) {
	refuses(t, nil)
	for _, r := range good() {
		b := encode(r)
		refuses(t, append(slices.Clone(b), 0))
		for i := range b {
			refuses(t, b[:i])
			for _, v := range []byte{0, 1, 2, 3, 4, 6, 8, b[i] + 1, b[i] - 1, b[i] + 2, b[i] ^ 128, 127, 128, 255} {
				c := slices.Clone(b)
				c[i] = v
				got, e := log.Read(c)
				if e != api.OK {
					refuses(t, c)
				} else if !bytes.Equal(encode(got), c) || !log.Right(got) {
					t.Errorf("%v: %+v", c, got)
				}
			}
		}
	}
	refuses(t, []byte{0, 2, 0, 2, 0, 4, 0})
	refuses(t, []byte{0, 2, 0, 2, 0, 3, 0})
	refuses(t, slices.Concat([]byte{0, 2, 0, 2, 0, 2}, pack.Num(1<<62)))
}

func TestPutP15_1(t *testing.T) {
	l := good()
	for _, empty := range [][]api.Record{nil, {}} {
		broken := disk.New(10)
		broken.Break()
		for i, d := range []*disk.Disk{disk.New(10), broken, nil} {
			if e := log.Put(d, empty); e != api.OK || len(d.Bytes()) != 0 {
				t.Error(i, e)
			}
		}
	}
	var data [][]byte
	for _, r := range l {
		data = append(data, encode(r))
	}
	framed, _ := frame.Wrap(data)
	d := disk.New(len(framed))
	if e := log.Put(d, l); e != api.OK || !bytes.Equal(d.Bytes(), framed) || d.Sure() != len(framed) {
		t.Error(e, d.Bytes(), d.Sure())
	}
	for i, x := range []struct {
		room   int
		broken bool
		l      []api.Record
		e      api.Errno
	}{
		{len(framed) - 1, false, l, api.ErrFull},
		{0, false, l[:1], api.ErrFull},
		{len(framed), true, l, api.ErrDown},
		{0, true, append(l, bad()[0]), api.ErrArg},
		{65536, false, append(bad()[:1], l...), api.ErrArg},
		{65536, false, append(l, bad()[5]), api.ErrArg},
	} {
		d := disk.New(x.room)
		if x.broken {
			d.Break()
		}
		if e := log.Put(d, x.l); e != x.e || len(d.Bytes()) != 0 {
			t.Error(i, e, d.Bytes())
		}
	}
	if e := log.Put(nil, l); e != api.ErrDown {
		t.Error(e)
	}
}

func framed(t *testing.T, l ...[]byte) []byte {
	t.Helper()
	b, e := frame.Wrap(l)
	if e != api.OK {
		t.Fatal(e)
	}
	return b
}

func TestScanP15_1(t *testing.T) {
	l := good()[:4]
	var b []byte
	ends := []int{0}
	for _, r := range l {
		b = append(b, framed(t, encode(r))...)
		ends = append(ends, len(b))
	}
	for cut := range len(b) + 1 {
		whole := 0
		for whole < len(l) && ends[whole+1] <= cut {
			whole++
		}
		if got, n := log.Scan(b[:cut]); n != ends[whole] || !log.Same(got, l[:whole]) {
			t.Error(cut, n, got)
		}
	}
	for i := range b {
		c := slices.Clone(b)
		c[i] ^= 64
		whole := 0
		for ends[whole+1] <= i {
			whole++
		}
		if got, n := log.Scan(c); n != ends[whole] || !log.Same(got, l[:whole]) {
			t.Error(i, n, got)
		}
	}
	// A good frame with something else than a record ends the log.
	first := framed(t, encode(l[0]))
	for _, other := range [][]byte{{9}, append(encode(l[0]), 0), encode(bad()[1]), encode(l[2])[:7]} {
		c := slices.Concat(first, framed(t, other), framed(t, encode(l[1])))
		if got, n := log.Scan(c); n != len(first) || !log.Same(got, l[:1]) {
			t.Error(other, n, got)
		}
	}
	if got, n := log.Scan(nil); n != 0 || len(got) != 0 {
		t.Error(got, n)
	}
}

func TestLastP15_1(t *testing.T) {
	a := record(at(1, 2), 0, api.Heard, 0, entry(ask(1, "a"), at(0, 9)))
	b := record(at(1, 2), 5, api.Agreed, 5, entry(ask(1, "a")))
	c := record(at(0, 7), 5, api.Settled, 5, none())
	d := record(at(0, 8), 5, api.Blank, 0, api.Entry{})
	e := record(at(2, 1), 5, api.Blank, 0, api.Entry{})
	for i, x := range []struct{ l, want []api.Record }{
		{nil, nil},
		{[]api.Record{a, b}, []api.Record{b}},
		{[]api.Record{b, a}, []api.Record{a}},
		{[]api.Record{e, a, d, c, b}, []api.Record{c, d, b, e}},
		{[]api.Record{c, c, c}, []api.Record{c}},
	} {
		if got := log.Last(x.l); !log.Same(got, x.want) {
			t.Error(i, got)
		}
	}
	l := log.Last([]api.Record{a})
	clear(l[0].Slot.Entry.Deps)
	if a.Slot.Entry.Deps[0] != at(0, 9) {
		t.Error("the argument has changed")
	}
}

func TestTrimP15_1(t *testing.T) {
	l := good()[2:6]
	d := disk.New(65536)
	log.Put(d, l)
	whole := d.Bytes()
	d.Append([]byte("no frame"))
	got, e := log.Trim(d)
	if e != api.OK || !log.Same(got, log.Last(l)) || !bytes.Equal(d.Bytes(), whole) || d.Sure() != len(whole) {
		t.Error(got, e, d.Bytes())
	}
	d.Append(framed(t, []byte{1, 2, 3}))
	d.Append(framed(t, encode(l[0])))
	d.Sync()
	got, e = log.Trim(d)
	if e != api.OK || !log.Same(got, log.Last(l)) || !bytes.Equal(d.Bytes(), whole) || d.Sure() != len(whole) {
		t.Error(got, e, d.Bytes())
	}
	if got, e := log.Trim(disk.New(0)); len(got) != 0 || e != api.OK {
		t.Error(got, e)
	}
	d.Break()
	for _, d := range []*disk.Disk{d, nil} {
		if got, e := log.Trim(d); len(got) != 0 || e != api.ErrDown {
			t.Error(got, e)
		}
	}
	if !bytes.Equal(d.Bytes(), whole) {
		t.Error("an error changed something")
	}
}

func TestSameP15_1(t *testing.T) {
	l := append(good(), bad()...)
	for i, a := range l {
		for j, b := range l {
			if same(a, b) != (i == j) {
				t.Error(i, j)
			}
		}
	}
	a, b, c := l[0], l[1], l[2]
	for i, x := range [][2][]api.Record{{{a, b}, {a}}, {{a, b}, {b, a}}, {{a, b}, {a, c}}, {nil, {a}}} {
		if log.Same(x[0], x[1]) || log.Same(x[1], x[0]) {
			t.Error(i)
		}
	}
	if !log.Same(nil, []api.Record{}) || !log.Same([]api.Record{a, b}, []api.Record{a, b}) {
		t.Error("same")
	}
	d := record(at(0, 1), 0, api.Heard, 0, api.Entry{Order: ask(1, "a"), Deps: []api.Inst{}})
	d.Slot.Entry.Order.Legs = []api.Leg{}
	if !same(c, d) {
		t.Error("nil and empty")
	}
}

// Whatever a crash leaves of what was being written, all that was put before is there, and then a part of the rest.
func TestCrashP15_2(t *testing.T) {
	r := rand.New(rand.NewSource(15))
	all := good()
	for range 300 {
		d := disk.New(65536)
		var l []api.Record
		for range r.Intn(6) {
			some := all[r.Intn(len(all)):][:1]
			if e := log.Put(d, some); e != api.OK {
				t.Fatal(e)
			}
			l = append(l, some...)
		}
		var later []api.Record
		for range 1 + r.Intn(4) {
			x := all[r.Intn(len(all))]
			later = append(later, x)
			d.Append(framed(t, encode(x)))
		}
		unsure := len(d.Bytes()) - d.Sure()
		d.Break()
		keep := r.Intn(unsure + 2)
		var spoil []disk.Spoil
		if r.Intn(2) == 0 {
			spoil = []disk.Spoil{{At: keep - 1, B: byte(r.Intn(256))}}
		}
		d.Up(keep, spoil)
		got, size := log.Scan(d.Bytes())
		if len(got) < len(l) || len(got) > len(l)+len(later) || !log.Same(got, append(l, later...)[:len(got)]) {
			t.Fatal(got)
		}
		last, e := log.Trim(d)
		if e != api.OK || !log.Same(last, log.Last(got)) || len(d.Bytes()) != size {
			t.Fatal(last, e)
		}
	}
}
