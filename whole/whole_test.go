// Package whole tests the promises of the whole that need more than one layer.
package whole

import (
	"bytes"
	"math"
	"math/rand"
	"testing"

	"countinghouse/api"
	"countinghouse/audit"
	"countinghouse/book"
	"countinghouse/chart"
	"countinghouse/clash"
	"countinghouse/coins"
	"countinghouse/disk"
	"countinghouse/foata"
	"countinghouse/frame"
	"countinghouse/history"
	"countinghouse/hold"
	"countinghouse/knots"
	"countinghouse/log"
	"countinghouse/order"
	"countinghouse/pack"
	"countinghouse/post"
	"countinghouse/ratio"
	"countinghouse/replica"
	"countinghouse/runner"
	"countinghouse/shell"
	"countinghouse/snap"
	"countinghouse/stream"
	"countinghouse/town"
	"countinghouse/voucher"
)

// odd makes arguments of every kind, most of which may not be.
type odd struct{ *rand.Rand }

func (r odd) int() int {
	l := []int{0, 1, 2, 3, 5, 7, 9, -1, 10, 100, 201, 999, 1000, 1001, 9999, 10000, 1000000, 1000001, math.MaxInt, math.MinInt}
	return l[r.Intn(len(l))]
}

func (r odd) sum() int64 { return int64(r.int()) }

func (r odd) text() string {
	l := []string{"", "a", "b", "ab", "abcdefgh", "abcdefghi", "A", "\xff", "é", "town 3\ndo 0 1.1 see a\nround", "5", "-0.05"}
	return l[r.Intn(len(l))]
}

func (r odd) bytes() []byte {
	b := make([]byte, r.Intn(30))
	for i := range b {
		b[i] = []byte{0, 1, 2, 3, 4, 97, 127, 128, 255}[r.Intn(9)]
	}
	return b
}

func (r odd) float() float64 {
	l := []float64{0, 0.5, -1, 1e18, math.NaN(), math.Inf(1), math.Inf(-1), math.MaxFloat64, math.SmallestNonzeroFloat64}
	return l[r.Intn(len(l))]
}

func many[T any](r odd, most int, one func() T) []T {
	var l []T
	for range r.Intn(most + 1) {
		l = append(l, one())
	}
	return l
}

func (r odd) id() api.Id { return api.Id{Client: r.int(), Seq: r.int()} }

func (r odd) leg() api.Leg { return api.Leg{Acct: r.text(), Sum: r.sum()} }

func (r odd) order() api.Order {
	if r.Intn(2) == 0 {
		return api.Order{Id: api.Id{Client: r.Intn(3), Seq: 1 + r.Intn(4)}, Kind: api.Open + 6*r.Intn(2), Acct: "a"}
	}
	return api.Order{Id: r.id(), Kind: r.int(), Acct: r.text(), Peer: r.text(), Sum: r.sum(), Legs: many(r, 7, r.leg), Period: r.int(), Hold: r.int(), Note: r.text()}
}

func (r odd) inst() api.Inst { return api.Inst{Rep: r.int(), Num: r.int()} }

func (r odd) entry() api.Entry {
	return api.Entry{Order: r.order(), None: r.Intn(3) == 0, Deps: many(r, 2, r.inst)}
}

func (r odd) slot() api.Slot {
	return api.Slot{Ballot: r.int(), State: r.int(), By: r.int(), Entry: r.entry()}
}

func (r odd) record() api.Record { return api.Record{Inst: r.inst(), Slot: r.slot()} }

func (r odd) msg() api.Msg {
	s := r.slot()
	return api.Msg{From: r.Intn(4), To: r.Intn(4), Kind: r.Intn(11), Inst: r.inst(), Ballot: s.Ballot, State: s.State, By: s.By, Entry: s.Entry}
}

func (r odd) acct() api.Acct {
	return api.Acct{Name: r.text(), Have: r.sum(), Set: r.sum(), Limit: r.sum()}
}

func (r odd) held() hold.Held { return hold.Held{Num: r.int(), Acct: r.text(), Sum: r.sum()} }

func (r odd) spoil() disk.Spoil { return disk.Spoil{At: r.int(), B: 7} }

func pick[T any](r odd, l ...T) T { return l[r.Intn(len(l))] }

func TestNothingPanicsT0(t *testing.T) {
	for seed := range 1500 {
		r := odd{rand.New(rand.NewSource(int64(seed)))}
		functions(r)
		objects(r)
		replicas(r)
	}
}

func functions(r odd) {
	a, b, n, m, s := r.sum(), r.sum(), r.int(), r.int(), r.text()
	coins.Add(a, b)
	coins.Less(a, b)
	coins.Times(a, b)
	coins.Total(many(r, 5, r.sum))
	coins.Share(a, n)
	coins.Text(a, n)
	coins.Read(s, n)
	coins.Between(a, b, r.sum())
	pack.Text(s)
	pack.Nums(many(r, 5, r.sum))
	frame.Sum(r.bytes())
	frame.Frame(r.bytes())
	frame.Scan(r.bytes())
	frame.Wrap(many(r, 3, r.bytes))
	chart.Name(s)
	o, p, l := r.order(), r.order(), many(r, 5, r.order)
	order.Right(o)
	order.Bytes(o)
	order.Read(r.bytes())
	order.Told(api.Reply{Err: api.Errno(n), Have: a, Set: b, Num: m})
	order.ReadTold(r.bytes())
	order.Touches(o)
	order.Same(o, p)
	order.Ahead(r.id(), r.id())
	order.Number(r.id())
	voucher.Mirror(o.Legs)
	voucher.Net([][]api.Leg{o.Legs, p.Legs})
	clash.Clash(o, p)
	clash.Right(l)
	clash.Alike(l, many(r, 5, r.order))
	clash.Swap(l, n)
	clash.Begins(l, many(r, 5, r.order))
	clash.Rest(l[:len(l)/2], l)
	clash.Meet(l, many(r, 5, r.order))
	foata.Export(l)
	foata.Import(r.bytes())
	foata.Normal([][]api.Order{l, {o}, nil})
	stream.Events(l, s)
	g := many(r, 6, func() []int { return many(r, 4, r.int) })
	knots.Order(g)
	knots.Reach(g, n)
	knots.Open(g, many(r, 9, func() bool { return r.Intn(3) > 0 }))
	ratio.Of(a, b)
	ratio.Times(a, r.float())
	ratio.Change(many(r, 4, r.sum), r.float())
	ratio.Mean(many(r, 4, r.sum), many(r, 4, r.float))
	ratio.Near(r.float(), r.float(), r.float())
	ratio.Show(r.float())
	shell.Run(s)
	audit.Moves(l)
	audit.Trial(l, n)
	audit.Errors(l)
	audit.Notes(l, s)
	audit.Between(l, s, n, m)
	audit.Largest(l, n)
	history.Row(l)
	history.Before(l, r.id())
	history.Common(l, many(r, 5, r.order))
	history.Gap(l, many(r, 5, r.order))
	history.Shape(l)
	history.Apart(l)
}

// objects calls the methods of objects that are nil or new.
func objects(r odd) {
	read := pick(r, nil, pack.New(r.bytes()))
	for range 4 {
		pick(r, func() { read.Num() }, func() { read.Range(r.sum(), r.sum()) }, func() { read.Text(r.int()) }, func() { read.Nums(r.int()) }, func() { read.Done() })()
		read.Left()
	}
	d := pick(r, nil, disk.New(r.int()))
	for range 6 {
		pick(r, func() { d.Append(r.bytes()) }, func() { d.Sync() }, func() { d.Cut(r.int()) }, d.Break, func() { d.Up(r.int(), many(r, 3, r.spoil)) }, func() { log.Put(d, many(r, 2, r.record)) }, func() { log.Trim(d) })()
		_ = len(d.Bytes()) + d.Sure() + d.Room()
	}
	c, h := pick(r, nil, chart.New()), pick(r, nil, hold.New())
	for range 8 {
		s, a := r.text(), r.sum()
		pick(r, func() { c.Open(s, a) }, func() { c.Give(s, a) }, func() { c.Aside(s, a) }, func() { voucher.Make(c, many(r, 7, r.leg)) }, func() { voucher.Check(c, many(r, 7, r.leg)) },
			func() { h.Put(c, r.held()) }, func() { h.Take(c, s, r.int(), r.text(), a) }, func() { h.Free(c, s, r.int()) })()
		c.Get(s)
		c.All()
		c.Total()
		h.Of(s)
		c, h = c.Copy(), h.Copy()
	}
	books(r)
	x := pick(r, nil, post.New())
	for range 4 {
		pick(r, func() { x.Put(many(r, 5, r.msg)) }, func() { x.Take(r.int()) }, func() { x.Look(r.int()) }, func() { x.Twice(r.int()) })()
		x.For(r.int())
		x.All()
	}
	m := r.msg()
	post.Bytes(m)
	post.Read(r.bytes())
	post.Same(m, r.msg())
	log.Bytes(r.record())
	log.Read(r.bytes())
	log.Scan(r.bytes())
	log.Last(many(r, 4, r.record))
	log.Same(many(r, 2, r.record), many(r, 2, r.record))
}

func books(r odd) {
	b := pick(r, nil, book.New())
	desk := pick(r, nil, stream.New())
	run := pick(r, nil, runner.New())
	for range 8 {
		pick(r, func() { b.Do(r.order()) }, func() { desk.Do(r.order()) }, func() { desk.Read(r.text(), r.text()) }, func() { desk.Take(r.text(), r.int()) }, func() { desk.Back(r.text(), r.int()) },
			func() { run.Commit(r.inst(), r.entry()) }, func() { run.Run() })()
		desk.Poll(r.text(), r.int())
		desk.At(r.text())
		desk.Of(r.text())
		run.Known()
		run.Missing()
		run.List()
		run.Told(r.id())
	}
	book.Same(b, desk.Book())
	book.Same(run.Book(), b.Copy())
	s := snap.Of(b)
	snap.Bytes(s)
	snap.Orders(s)
	snap.Read(r.bytes())
	s = snap.State{Accts: many(r, 3, r.acct), Holds: many(r, 3, r.held), Closed: r.int()}
	snap.Bytes(s)
	snap.Same(s, snap.Of(b))
	snap.Orders(s)
}

func replicas(r odd) {
	x, _ := replica.New(r.int(), r.int(), pick(r, nil, disk.New(r.int())))
	x = pick(r, x, x, nil)
	y := pick(r, nil, town.New(3, r.int()), town.New(3, 65536))
	for range 12 {
		pick(r, func() { x.Submit(r.order()) }, func() { x.Take(r.msg()) }, func() { x.Tick() })()
		x.Slots()
		x.List()
		x.Book()
		x.Told(r.id())
		x.Leads()
		x.Waits()
		y.Do(town.Step{Kind: r.Intn(10) - 1, A: pick(r, 0, 1, 2, r.int()), B: r.int(), Order: r.order(), Spoil: many(r, 2, r.spoil)})
		y.Replica(r.int())
		town.Export(y, r.int())
	}
	y.Calm(pick(r, 5, -1))
	y.Asked()
	y.Told()
	y.Bag()
	y.Steps()
	replica.Majority(r.int())
	replica.Union(many(r, 3, r.inst), many(r, 3, r.inst))
	replica.Choose(many(r, 3, r.slot))
}

// What replicas have executed can be imported and executed again.
func TestSameBytesT4(t *testing.T) {
	x := town.New(5, 65536)
	l := []api.Order{
		{Id: api.Id{Seq: 1}, Kind: api.Open, Acct: "a", Sum: 50},
		{Id: api.Id{Seq: 2}, Kind: api.Open, Acct: "b"},
		{Id: api.Id{Seq: 3}, Kind: api.Post, Period: 1, Legs: []api.Leg{{Acct: "a", Sum: -7}, {Acct: "b", Sum: 7}}},
		{Id: api.Id{Seq: 4}, Kind: api.Hold, Acct: "b", Sum: 3},
		{Id: api.Id{Seq: 5}, Kind: api.Close, Period: 4},
	}
	for k, o := range l {
		if e := x.Do(town.Step{Kind: town.Ask, A: k, Order: o}); e != api.OK {
			t.Fatal(e)
		}
	}
	x.Calm(100)
	first, e := town.Export(x, 0)
	if e != api.OK {
		t.Fatal(e)
	}
	for k := range 5 {
		b, e := town.Export(x, k)
		if e != api.OK || !bytes.Equal(b, first) {
			t.Error(k, b, e)
		}
		steps, e := foata.Import(b)
		_, again := book.Fold(foata.Lay(steps))
		if e != api.OK || len(foata.Lay(steps)) != 5 || !book.Same(again, x.Replica(k).Book()) {
			t.Error(k, steps, e)
		}
	}
}
