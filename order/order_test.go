package order_test

import (
	"bytes"
	"math"
	"slices"
	"strings"
	"testing"

	"countinghouse/api"
	"countinghouse/order"
	"countinghouse/pack"
)

const (
	top = math.MaxInt64
	low = math.MinInt64
)

func id(client, seq int) api.Id { return api.Id{Client: client, Seq: seq} }

func legs(l ...api.Leg) []api.Leg { return l }

func leg(acct string, sum int64) api.Leg { return api.Leg{Acct: acct, Sum: sum} }

// valid returns a valid order of each Kind.
func valid() []api.Order {
	return []api.Order{
		{Id: id(0, 1), Kind: api.Open, Acct: "a", Sum: 7},
		{Id: id(1, 2), Kind: api.Post, Legs: legs(leg("b", -5), leg("a", 5)), Period: 3, Note: "rent"},
		{Id: id(2, 3), Kind: api.Hold, Acct: "a", Sum: 6},
		{Id: id(3, 4), Kind: api.Capture, Acct: "b", Peer: "a", Sum: 4, Hold: 2003, Period: 5},
		{Id: id(4, 5), Kind: api.Release, Acct: "a", Hold: 2003},
		{Id: id(5, 6), Kind: api.Close, Period: 8},
		{Id: id(6, 7), Kind: api.Ask, Acct: "a"},
	}
}

// change is something done to an order, and the Kinds of which it remains valid.
type change struct {
	name  string
	do    func(o *api.Order)
	kinds []int
}

func all() []int { return []int{1, 2, 3, 4, 5, 6, 7} }

func longest() []api.Leg {
	return legs(leg("a", 1), leg("b", -1), leg("c", top), leg("d", low), leg("e", 2), leg("abcdefgh", 2))
}

func changes() []change {
	return []change{
		{"nothing", func(o *api.Order) {}, all()},
		{"client 0", func(o *api.Order) { o.Id.Client = 0 }, all()},
		{"client 9", func(o *api.Order) { o.Id.Client = 9 }, all()},
		{"client -1", func(o *api.Order) { o.Id.Client = -1 }, nil},
		{"client 10", func(o *api.Order) { o.Id.Client = 10 }, nil},
		{"seq 1", func(o *api.Order) { o.Id.Seq = 1 }, all()},
		{"seq 999", func(o *api.Order) { o.Id.Seq = 999 }, all()},
		{"seq 0", func(o *api.Order) { o.Id.Seq = 0 }, nil},
		{"seq 1000", func(o *api.Order) { o.Id.Seq = 1000 }, nil},
		{"kind 0", func(o *api.Order) { o.Kind = 0 }, nil},
		{"kind 8", func(o *api.Order) { o.Kind = 8 }, nil},
		{"kind -1", func(o *api.Order) { o.Kind = -1 }, nil},
		{"acct empty", func(o *api.Order) { o.Acct = "" }, []int{2, 6}},
		{"acct long", func(o *api.Order) { o.Acct = "abcdefghi" }, nil},
		{"acct longest", func(o *api.Order) { o.Acct = "abcdefgh" }, []int{1, 3, 4, 5, 7}},
		{"acct upper", func(o *api.Order) { o.Acct = "A" }, nil},
		{"acct z", func(o *api.Order) { o.Acct = "z" }, []int{1, 3, 4, 5, 7}},
		{"acct a", func(o *api.Order) { o.Acct = "a" }, []int{1, 3, 5, 7}},
		{"peer z", func(o *api.Order) { o.Peer = "z" }, []int{4}},
		{"peer empty", func(o *api.Order) { o.Peer = "" }, []int{1, 2, 3, 5, 6, 7}},
		{"peer is acct", func(o *api.Order) { o.Peer = o.Acct }, []int{2, 6}},
		{"peer long", func(o *api.Order) { o.Peer = "abcdefghi" }, nil},
		{"peer upper", func(o *api.Order) { o.Peer = "Z" }, nil},
		{"sum 0", func(o *api.Order) { o.Sum = 0 }, []int{1, 2, 5, 6, 7}},
		{"sum 1", func(o *api.Order) { o.Sum = 1 }, []int{1, 3, 4}},
		{"sum -1", func(o *api.Order) { o.Sum = -1 }, nil},
		{"sum least", func(o *api.Order) { o.Sum = low }, nil},
		{"sum most", func(o *api.Order) { o.Sum = top }, []int{1, 3, 4}},
		{"no legs", func(o *api.Order) { o.Legs = nil }, []int{1, 3, 4, 5, 6, 7}},
		{"empty legs", func(o *api.Order) { o.Legs = []api.Leg{} }, []int{1, 3, 4, 5, 6, 7}},
		{"one leg", func(o *api.Order) { o.Legs = longest()[:1] }, nil},
		{"two legs", func(o *api.Order) { o.Legs = longest()[:2] }, []int{2}},
		{"six legs", func(o *api.Order) { o.Legs = longest() }, []int{2}},
		{"seven legs", func(o *api.Order) { o.Legs = append(longest(), leg("z", 1)) }, nil},
		{"legs of one account", func(o *api.Order) { o.Legs = legs(leg("a", 1), leg("b", 1), leg("a", -2)) }, nil},
		{"leg of 0", func(o *api.Order) { o.Legs = legs(leg("a", 1), leg("b", 0)) }, nil},
		{"leg without name", func(o *api.Order) { o.Legs = legs(leg("", 1), leg("b", -1)) }, nil},
		{"leg with a bad name", func(o *api.Order) { o.Legs = legs(leg("a", 1), leg("b!", -1)) }, nil},
		{"period 0", func(o *api.Order) { o.Period = 0 }, []int{1, 3, 5, 7}},
		{"period 1", func(o *api.Order) { o.Period = 1 }, []int{2, 4, 6}},
		{"period 1000", func(o *api.Order) { o.Period = 1000 }, []int{2, 4, 6}},
		{"period 1001", func(o *api.Order) { o.Period = 1001 }, nil},
		{"period -1", func(o *api.Order) { o.Period = -1 }, nil},
		{"hold 0", func(o *api.Order) { o.Hold = 0 }, []int{1, 2, 3, 6, 7}},
		{"hold 1", func(o *api.Order) { o.Hold = 1 }, []int{4, 5}},
		{"hold 9999", func(o *api.Order) { o.Hold = 9999 }, []int{4, 5}},
		{"hold 10000", func(o *api.Order) { o.Hold = 10000 }, nil},
		{"hold -1", func(o *api.Order) { o.Hold = -1 }, nil},
		{"no note", func(o *api.Order) { o.Note = "" }, all()},
		{"note", func(o *api.Order) { o.Note = "\xff\x00 any" }, []int{2}},
		{"note 20", func(o *api.Order) { o.Note = strings.Repeat("é", 10) }, []int{2}},
		{"note 21", func(o *api.Order) { o.Note = strings.Repeat("x", 21) }, nil},
	}
}

func TestRightAndEncodingP6_1P6_2(t *testing.T) {
	for _, c := range changes() {
		for _, o := range valid() {
			kind := o.Kind
			c.do(&o)
			want := slices.Contains(c.kinds, kind)
			if order.Right(o) != want {
				t.Errorf("%s, kind %d: Right is not %v", c.name, kind, want)
			}
			b, e := order.Bytes(o)
			if !want {
				if len(b) != 0 || e != api.ErrArg {
					t.Errorf("%s, kind %d: %v, %d", c.name, kind, b, e)
				}
				refuses(t, encode(o))
				continue
			}
			if e != api.OK || !bytes.Equal(b, encode(o)) {
				t.Errorf("%s, kind %d: %v, %d", c.name, kind, b, e)
			}
			if back, e := order.Read(b); e != api.OK || !order.Same(back, o) {
				t.Errorf("%s, kind %d: %+v, %d", c.name, kind, back, e)
			}
		}
	}
}

// encode encodes any order, as the chapter says it of valid ones.
func encode(o api.Order) []byte {
	n := func(n int) []byte { return pack.Num(int64(n)) }
	b := slices.Concat(n(o.Id.Client), n(o.Id.Seq), n(o.Kind), pack.Text(o.Acct), pack.Text(o.Peer), pack.Num(o.Sum), n(len(o.Legs)))
	for _, l := range o.Legs {
		b = slices.Concat(b, pack.Text(l.Acct), pack.Num(l.Sum))
	}
	return slices.Concat(b, n(o.Period), n(o.Hold), pack.Text(o.Note))
}

func refuses(t *testing.T, b []byte) {
	t.Helper()
	if o, e := order.Read(b); e != api.ErrBytes || !order.Same(o, api.Order{}) {
		t.Errorf("%v: %+v, %d", b, o, e)
	}
}

func TestExampleP6_1(t *testing.T) {
	b, e := order.Bytes(api.Order{Id: id(0, 1), Kind: api.Ask, Acct: "a"})
	if e != api.OK || !bytes.Equal(b, []byte{0, 2, 14, 2, 97, 0, 0, 0, 0, 0, 0}) {
		t.Error(b, e)
	}
}

func TestReadAcceptsOnlyEncodingsP6_2(t *testing.T) {
	refuses(t, nil)
	for _, o := range valid() {
		b, _ := order.Bytes(o)
		for i := range b {
			refuses(t, b[:i])
			for v := range 256 {
				c := slices.Clone(b)
				c[i] = byte(v)
				if got, e := order.Read(c); e != api.OK {
					refuses(t, c)
				} else if again, e := order.Bytes(got); e != api.OK || !bytes.Equal(again, c) {
					t.Errorf("%v is read as %+v", c, got)
				}
			}
			longer := slices.Concat(b[:i], []byte{b[i] | 128, 0}, b[i+1:])
			if got, e := order.Read(longer); e == api.OK {
				if again, _ := order.Bytes(got); !bytes.Equal(again, longer) {
					t.Errorf("%v is read as %+v", longer, got)
				}
			}
		}
		refuses(t, append(slices.Clone(b), 0))
	}
	refuses(t, slices.Concat([]byte{0, 2, 14}, pack.Num(top)))
	refuses(t, slices.Concat([]byte{0, 2, 14, 2, 97, 0, 0}, pack.Num(top)))
}

func TestRepliesP6_1(t *testing.T) {
	for _, r := range []api.Reply{
		{}, {Err: 14}, {Have: -5, Set: 7, Num: 9999}, {Err: 3, Have: top, Set: low, Num: math.MinInt}, {Num: math.MaxInt},
	} {
		b := order.Told(r)
		want := slices.Concat(pack.Num(int64(r.Err)), pack.Num(r.Have), pack.Num(r.Set), pack.Num(int64(r.Num)))
		if !bytes.Equal(b, want) {
			t.Errorf("%+v: %v", r, b)
		}
		if got, e := order.ReadTold(b); got != r || e != api.OK {
			t.Errorf("%+v: %+v, %d", r, got, e)
		}
		bad := [][]byte{append(slices.Clone(b), 0)}
		for i := range b {
			bad = append(bad, b[:i])
		}
		for _, b := range bad {
			if got, e := order.ReadTold(b); got != (api.Reply{}) || e != api.ErrBytes {
				t.Errorf("%v: %+v, %d", b, got, e)
			}
		}
	}
	for _, err := range []api.Errno{-1, 15, top, low} {
		b := order.Told(api.Reply{Err: err})
		if !bytes.Equal(b, slices.Concat(pack.Num(int64(err)), []byte{0, 0, 0})) {
			t.Error(err, b)
		}
		if got, e := order.ReadTold(b); got != (api.Reply{}) || e != api.ErrBytes {
			t.Error(err, got, e)
		}
	}
	if got, e := order.ReadTold([]byte{128, 0, 0, 0, 0}); got != (api.Reply{}) || e != api.ErrBytes {
		t.Error(got, e)
	}
}

func TestTouchesP6_1(t *testing.T) {
	want := [][]string{{"a"}, {"a", "b"}, {"a"}, {"a", "b"}, {"a"}, nil, {"a"}}
	for i, o := range valid() {
		if got := order.Touches(o); !slices.Equal(got, want[i]) {
			t.Error(i, got)
		}
	}
	o := api.Order{Legs: legs(leg("c", 1), leg("a", 1), leg("ab", 1), leg("9", 1), leg("c", 2))}
	if got := order.Touches(o); !slices.Equal(got, []string{"9", "a", "ab", "c"}) {
		t.Error(got)
	}
	if o.Legs[0].Acct != "c" || o.Legs[3].Acct != "9" {
		t.Error("the argument has changed")
	}
	if got := order.Touches(api.Order{}); len(got) != 0 {
		t.Error(got)
	}
}

func TestSameP6_1(t *testing.T) {
	for _, c := range changes() {
		for i, o := range valid() {
			c.do(&o)
			for j, p := range valid() {
				if got := order.Same(o, p); got != (i == j && bytes.Equal(encode(o), encode(p))) || got != order.Same(p, o) {
					t.Error(c.name, i, j, got)
				}
			}
			if o.Legs != nil {
				continue
			}
			with := o
			with.Legs = []api.Leg{}
			if !order.Same(o, with) || !order.Same(with, o) {
				t.Error(c.name, i, "nil and empty")
			}
		}
	}
	a := api.Order{Legs: legs(leg("a", 1), leg("b", 2))}
	for _, l := range [][]api.Leg{legs(leg("a", 1)), legs(leg("b", 2), leg("a", 1)), legs(leg("a", 1), leg("b", 3)), legs(leg("a", 1), leg("c", 2))} {
		if order.Same(a, api.Order{Legs: l}) {
			t.Error(l)
		}
	}
}

func TestAheadAndNumberP6_1(t *testing.T) {
	l := []api.Id{id(low, top), id(-1, 5), id(0, -1), id(0, 0), id(0, 999), id(1, 1), id(1, 2), id(9, 1), id(9, top)}
	for i, a := range l {
		for j, b := range l {
			if order.Ahead(a, b) != (i < j) {
				t.Error(a, b)
			}
		}
	}
	for want, x := range map[int]api.Id{1: id(0, 1), 9999: id(9, 999), 1002: id(1, 2), 5003: id(5, 3), 0: {}} {
		if got := order.Number(x); got != want {
			t.Error(x, got)
		}
	}
}
