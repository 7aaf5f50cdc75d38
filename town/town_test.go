package town_test

import (
	"bytes"
	"fmt"
	"math"
	"slices"
	"testing"

	"countinghouse/api"
	"countinghouse/book"
	"countinghouse/disk"
	"countinghouse/foata"
	"countinghouse/order"
	"countinghouse/post"
	"countinghouse/town"
)

func id(seq int) api.Id { return api.Id{Client: 1, Seq: seq} }

func ask(seq int, acct string) api.Order {
	return api.Order{Id: id(seq), Kind: api.Ask, Acct: acct}
}

func open(seq int, acct string, limit int64) api.Order {
	return api.Order{Id: id(seq), Kind: api.Open, Acct: acct, Sum: limit}
}

func pay(seq int, from, to string, sum int64) api.Order {
	return api.Order{Id: id(seq), Kind: api.Post, Period: 1, Legs: []api.Leg{{Acct: from, Sum: -sum}, {Acct: to, Sum: sum}}}
}

func step(kind, a int) town.Step { return town.Step{Kind: kind, A: a} }

func asking(rep int, o api.Order) town.Step { return town.Step{Kind: town.Ask, A: rep, Order: o} }

func do(t *testing.T, x *town.Town, want api.Errno, s town.Step) {
	t.Helper()
	before := x.Steps()
	if e := x.Do(s); e != want {
		t.Errorf("%+v: %d, not %d", s, e, want)
	}
	if x.Steps() != before+1 {
		t.Errorf("%+v: step %d", s, x.Steps())
	}
}

func bag(t *testing.T, x *town.Town, kinds ...int) {
	t.Helper()
	var got []int
	for _, m := range x.Bag() {
		got = append(got, m.Kind)
	}
	if !slices.Equal(got, kinds) {
		t.Error("bag", got, "not", kinds)
	}
}

func TestKindsP18_1(t *testing.T) {
	got := []int{town.Ask, town.Bring, town.Lose, town.Double, town.Tick, town.Crash, town.Up, town.Round}
	if !slices.Equal(got, []int{0, 1, 2, 3, 4, 5, 6, 7}) {
		t.Error(got)
	}
}

func TestNewP18_1(t *testing.T) {
	for _, n := range []int{-3, 0, 1, 2, 4, 6, 8, 9, math.MaxInt, math.MinInt} {
		if x := town.New(n, 100); x != nil {
			t.Error(n)
		}
	}
	for _, n := range []int{3, 5, 7} {
		x := town.New(n, -5)
		for k := -1; k <= n; k++ {
			if (x.Replica(k) != nil) != (k >= 0 && k < n) {
				t.Error(n, k)
			}
		}
		if len(x.Asked())+len(x.Told())+len(x.Bag())+x.Steps() != 0 {
			t.Error(n, "is not empty")
		}
	}
}

// Three replicas, Ask at 0, Calm: all have executed it; one reply is told.
func TestExampleP18_4(t *testing.T) {
	x := town.New(3, 65536)
	do(t, x, api.OK, asking(0, ask(1, "a")))
	if n := x.Calm(20); n < 1 || n == 20 || x.Steps() != 1+n {
		t.Error(n, x.Steps())
	}
	for k := range 3 {
		if l := x.Replica(k).List(); len(l) != 1 || !order.Same(l[0], ask(1, "a")) {
			t.Error(k, l)
		}
	}
	l := x.Told()
	if len(l) != 1 || l[0].Rep != 0 || l[0].Step < 2 || l[0].Id != id(1) || l[0].Reply != (api.Reply{Err: api.ErrNone}) {
		t.Error(l)
	}
	if n := x.Calm(20); n > 1 || len(x.Told()) != 1 {
		t.Error(n)
	}
}

func TestStepsP18_1(t *testing.T) {
	x := town.New(3, 65536)
	do(t, x, api.OK, asking(0, open(1, "a", 5)))
	bag(t, x, api.Pre, api.Pre)
	do(t, x, api.ErrNone, step(town.Bring, 2))
	do(t, x, api.ErrNone, step(town.Bring, -1))
	do(t, x, api.ErrNone, step(town.Lose, 2))
	do(t, x, api.ErrNone, step(town.Double, 2))
	do(t, x, api.ErrNone, step(town.Lose, math.MinInt))
	do(t, x, api.ErrNone, step(town.Double, -1))
	do(t, x, api.OK, step(town.Double, 0))
	bag(t, x, api.Pre, api.Pre, api.Pre)
	do(t, x, api.OK, step(town.Lose, 0))
	do(t, x, api.OK, step(town.Bring, 1))
	bag(t, x, api.Pre, api.PreOK)
	do(t, x, api.OK, step(town.Tick, 0))
	bag(t, x, api.Pre, api.PreOK, api.Pre, api.Pre)
	if m := x.Bag(); m[0].To != 2 || m[1].From != 1 || m[1].To != 0 || m[2].To != 1 || m[3].To != 2 {
		t.Error(m)
	}
	do(t, x, api.OK, step(town.Bring, 0))
	do(t, x, api.OK, step(town.Bring, 0))
	bag(t, x, api.Pre, api.Pre, api.PreOK)
	if len(x.Told()) != 0 || x.Steps() != 13 {
		t.Error(x.Told(), x.Steps())
	}
	do(t, x, api.OK, step(town.Bring, 2))
	bag(t, x, api.Pre, api.Pre, api.Commit, api.Commit)
	if l := x.Told(); !slices.Equal(l, []town.Told{{Rep: 0, Step: 14, Id: id(1)}}) {
		t.Error(l)
	}
	if l := x.Asked(); len(l) != 1 || l[0].Rep != 0 || l[0].Step != 1 || !order.Same(l[0].Order, open(1, "a", 5)) {
		t.Error(l)
	}
}

func TestErrorsP18_1(t *testing.T) {
	x := town.New(3, 100)
	for _, a := range []int{-1, 3, math.MaxInt, math.MinInt} {
		do(t, x, api.ErrArg, asking(a, ask(1, "a")))
		do(t, x, api.ErrArg, step(town.Tick, a))
		do(t, x, api.ErrArg, step(town.Crash, a))
		do(t, x, api.ErrArg, step(town.Up, a))
	}
	for _, kind := range []int{-1, 8, 100} {
		before := x.Steps()
		if e := x.Do(step(kind, 0)); e != api.ErrArg || x.Steps() != before {
			t.Error(kind, e, x.Steps())
		}
	}
	do(t, x, api.ErrArg, asking(0, ask(0, "a")))
	do(t, x, api.ErrThere, step(town.Up, 0))
	do(t, x, api.OK, step(town.Crash, 0))
	do(t, x, api.ErrDown, step(town.Crash, 0))
	do(t, x, api.ErrDown, step(town.Tick, 0))
	do(t, x, api.ErrDown, asking(0, ask(1, "a")))
	do(t, x, api.ErrDown, asking(0, ask(0, "a")))
	if x.Replica(0) != nil || x.Replica(1) == nil {
		t.Error("down")
	}
	do(t, x, api.OK, step(town.Up, 0))
	do(t, x, api.ErrThere, step(town.Up, 0))
	if len(x.Asked())+len(x.Bag()) != 0 || x.Replica(0) == nil {
		t.Error(x.Asked(), x.Bag())
	}
	for k := 1; ; k++ {
		if e := x.Do(asking(0, ask(k, "a"))); e == api.ErrFull {
			if len(x.Asked()) != k-1 || len(x.Bag()) != 2*(k-1) {
				t.Error(k, x.Asked())
			}
			break
		}
	}
}

func TestDownP18_1(t *testing.T) {
	x := town.New(3, 65536)
	do(t, x, api.OK, asking(0, ask(1, "a")))
	do(t, x, api.OK, step(town.Crash, 1))
	do(t, x, api.ErrDown, step(town.Bring, 0))
	bag(t, x, api.Pre)
	do(t, x, api.OK, step(town.Bring, 0))
	do(t, x, api.OK, step(town.Crash, 0))
	do(t, x, api.ErrDown, step(town.Bring, 0))
	bag(t, x)
	do(t, x, api.OK, town.Step{Kind: town.Up, A: 0, B: 5, Spoil: []disk.Spoil{{At: 0, B: 9}}})
	if s := x.Replica(0).Slots(); len(s) != 1 || s[0].Slot.State != api.Heard || len(x.Replica(0).Leads()) != 0 {
		t.Error(s)
	}
	do(t, x, api.OK, step(town.Up, 1))
	for range 12 {
		do(t, x, api.OK, step(town.Round, 0))
	}
	if l := x.Told(); len(l) != 1 || len(x.Replica(1).List()) != 1 {
		t.Error(l)
	}
}

// A replica tells only what was asked of it, once, and only while it is up.
func TestToldP18_1(t *testing.T) {
	x := town.New(3, 65536)
	do(t, x, api.OK, asking(0, open(1, "a", 5)))
	do(t, x, api.OK, asking(0, open(1, "a", 5)))
	do(t, x, api.OK, asking(1, open(1, "a", 5)))
	do(t, x, api.OK, asking(2, ask(2, "b")))
	do(t, x, api.OK, asking(0, open(3, "c", 5)))
	if n := x.Calm(50); n == 50 {
		t.Error(n)
	}
	var places []string
	for _, y := range x.Told() {
		places = append(places, fmt.Sprint(y.Rep, y.Id.Seq, y.Reply.Err))
	}
	slices.Sort(places)
	if !slices.Equal(places, []string{"0 1 0", "0 3 0", "1 1 0", "2 2 6"}) {
		t.Error(places)
	}
	if len(x.Asked()) != 5 || len(x.Replica(0).List()) != 3 {
		t.Error(x.Asked())
	}
	// Asked again of another one, it is told there, too, as soon as that step is done.
	n := x.Steps()
	do(t, x, api.OK, asking(2, open(1, "a", 5)))
	l := x.Told()
	if l[len(l)-1] != (town.Told{Rep: 2, Step: n + 1, Id: id(1)}) {
		t.Error(l)
	}
	do(t, x, api.OK, asking(2, open(1, "a", 5)))
	if len(x.Told()) != len(l) {
		t.Error(x.Told())
	}
}

// What was asked of a replica that was down when the rest executed it is told when it is up again.
func TestToldLaterP18_1(t *testing.T) {
	x := town.New(3, 65536)
	do(t, x, api.OK, asking(0, ask(1, "a")))
	do(t, x, api.OK, step(town.Bring, 0))
	do(t, x, api.OK, step(town.Bring, 0))
	do(t, x, api.OK, step(town.Crash, 0))
	for range 14 {
		do(t, x, api.OK, step(town.Round, 0))
	}
	if len(x.Replica(1).List()) != 1 || len(x.Told()) != 0 {
		t.Error(x.Told())
	}
	do(t, x, api.OK, step(town.Up, 0))
	for range 10 {
		do(t, x, api.OK, step(town.Round, 0))
	}
	if l := x.Told(); len(l) != 1 || l[0].Rep != 0 || l[0].Step <= 19 {
		t.Error(l)
	}
}

func TestRoundP18_1(t *testing.T) {
	x := town.New(3, 65536)
	do(t, x, api.OK, asking(0, ask(1, "a")))
	do(t, x, api.OK, asking(1, ask(2, "b")))
	do(t, x, api.OK, step(town.Round, 0))
	// Each Pre has been answered; the ticks sent each Pre again.
	bag(t, x, api.PreOK, api.PreOK, api.PreOK, api.PreOK, api.Pre, api.Pre, api.Pre, api.Pre)
	if x.Steps() != 3 {
		t.Error(x.Steps())
	}
	do(t, x, api.OK, step(town.Crash, 2))
	do(t, x, api.OK, step(town.Round, 0))
	if len(x.Told()) != 2 {
		t.Error(x.Told())
	}
}

// The first error of a Round that is not ErrDown is its error, and it is carried out all the same.
func TestRoundErrorP18_1(t *testing.T) {
	x := town.New(3, 100)
	for k := 1; x.Do(asking(1, ask(k, "a"))) == api.OK; k++ {
	}
	for len(x.Bag()) > 0 {
		do(t, x, api.OK, step(town.Lose, 0))
	}
	do(t, x, api.OK, asking(0, ask(100, "b")))
	do(t, x, api.ErrFull, step(town.Round, 0))
	var oks int
	for _, m := range x.Bag() {
		if m.Kind == api.PreOK {
			oks++
		}
	}
	if oks != 1 {
		t.Error(x.Bag())
	}
}

func TestCalmP18_4(t *testing.T) {
	x := town.New(3, 65536)
	do(t, x, api.OK, asking(0, ask(1, "a")))
	for _, n := range []int{0, -1, math.MinInt} {
		if got := x.Calm(n); got != 0 {
			t.Error(n, got)
		}
	}
	if got := x.Calm(1); got != 1 || len(x.Bag()) == 0 || x.Steps() != 2 {
		t.Error(got)
	}
	do(t, x, api.OK, step(town.Crash, 2))
	// What is committed is announced to one that is down, again and again.
	if got := x.Calm(30); got != 30 || x.Steps() != 33 {
		t.Error(got, x.Steps())
	}
	if got := x.Calm(math.MaxInt); got != 1000 || x.Steps() != 1033 {
		t.Error(got, x.Steps())
	}
	do(t, x, api.OK, step(town.Up, 2))
	if got := x.Calm(math.MaxInt); got > 20 || len(x.Bag()) != 0 || len(x.Replica(2).List()) != 1 {
		t.Error(got)
	}
}

// With an empty bag there is no calm as long as an Inst is led.
func TestCalmWhileLeadingP18_4(t *testing.T) {
	x := town.New(3, 65536)
	do(t, x, api.OK, asking(0, ask(1, "a")))
	do(t, x, api.OK, step(town.Lose, 0))
	do(t, x, api.OK, step(town.Lose, 0))
	bag(t, x)
	if n := x.Calm(50); n == 0 || n == 50 || len(x.Replica(2).List()) != 1 {
		t.Error(n)
	}
}

// Nor is there as long as a committed entry waits.
func TestCalmWhileWaitingP18_4(t *testing.T) {
	x := town.New(3, 65536)
	do(t, x, api.OK, asking(0, ask(1, "a")))
	do(t, x, api.OK, step(town.Bring, 0))
	do(t, x, api.OK, step(town.Lose, 0))
	do(t, x, api.OK, step(town.Lose, 0))
	do(t, x, api.OK, step(town.Crash, 0))
	do(t, x, api.OK, asking(1, ask(2, "a")))
	do(t, x, api.OK, step(town.Lose, 0))
	do(t, x, api.OK, step(town.Bring, 0))
	do(t, x, api.OK, step(town.Bring, 0))
	do(t, x, api.OK, step(town.Tick, 1))
	do(t, x, api.OK, step(town.Lose, 0))
	do(t, x, api.OK, step(town.Bring, 0))
	do(t, x, api.OK, step(town.Bring, 0))
	do(t, x, api.OK, step(town.Lose, 0))
	do(t, x, api.OK, step(town.Lose, 0))
	bag(t, x)
	r := x.Replica(1)
	if len(r.Waits()) != 1 || len(r.Leads()) != 0 || len(r.List()) != 0 {
		t.Error(r.Waits(), r.Leads(), r.List())
	}
	if n := x.Calm(1); n != 1 {
		t.Error(n)
	}
}

func TestExportP18_3(t *testing.T) {
	x := town.New(3, 65536)
	for _, k := range []int{-1, 3, math.MaxInt} {
		if b, e := town.Export(x, k); len(b) != 0 || e != api.ErrDown {
			t.Error(k, b, e)
		}
	}
	if b, e := town.Export(x, 0); !bytes.Equal(b, []byte{0}) || e != api.OK {
		t.Error(b, e)
	}
	l := []api.Order{open(1, "a", 5), open(2, "b", 5), pay(3, "a", "b", 4)}
	for k, o := range l {
		do(t, x, api.OK, asking(k, o))
		x.Calm(50)
	}
	want, _ := foata.Export(l)
	for k := range 3 {
		if b, e := town.Export(x, k); !bytes.Equal(b, want) || e != api.OK {
			t.Error(k, b, e)
		}
	}
	do(t, x, api.OK, step(town.Crash, 1))
	if b, e := town.Export(x, 1); len(b) != 0 || e != api.ErrDown {
		t.Error(b, e)
	}
	if b, e := town.Export(nil, 0); len(b) != 0 || e != api.ErrDown {
		t.Error(b, e)
	}
	_, folded := book.Fold(l)
	if !book.Same(x.Replica(2).Book(), folded) {
		t.Error("book")
	}
}

// More than 200 orders can't be exported.
func TestExportTooLongP18_3(t *testing.T) {
	x := town.New(3, 65536)
	for k := range 201 {
		if b, e := town.Export(x, 0); e != api.OK || len(b) == 0 {
			t.Fatal(k, e)
		}
		do(t, x, api.OK, asking(0, ask(k+1, fmt.Sprint("a", k))))
		if n := x.Calm(50); n == 50 {
			t.Fatal(n)
		}
	}
	if b, e := town.Export(x, 0); len(b) != 0 || e != api.ErrArg || len(x.Replica(0).List()) != 201 {
		t.Error(b, e)
	}
}

func TestFullBagP18_1(t *testing.T) {
	x := town.New(3, 65536)
	do(t, x, api.OK, asking(0, ask(1, "a")))
	for len(x.Bag()) < 400 {
		do(t, x, api.OK, step(town.Double, 0))
	}
	do(t, x, api.ErrFull, step(town.Double, 0))
	do(t, x, api.ErrNone, step(town.Double, 400))
	do(t, x, api.OK, asking(1, ask(2, "b")))
	if len(x.Bag()) != 400 || len(x.Asked()) != 2 {
		t.Error(len(x.Bag()))
	}
}

func TestNilTownP18_1(t *testing.T) {
	var x *town.Town
	for kind := -1; kind < 9; kind++ {
		if e := x.Do(step(kind, 0)); e != api.ErrArg {
			t.Error(kind, e)
		}
	}
	if x.Calm(5)+x.Steps()+len(x.Asked())+len(x.Told())+len(x.Bag()) != 0 || x.Replica(0) != nil {
		t.Error("nil")
	}
}

func TestNewMemoryP18_1(t *testing.T) {
	x := town.New(3, 65536)
	do(t, x, api.OK, asking(0, ask(1, "a")))
	o := pay(2, "a", "b", 5)
	do(t, x, api.OK, asking(0, o))
	clear(o.Legs)
	clear(x.Asked()[1].Order.Legs)
	m := x.Bag()
	clear(m[2].Entry.Order.Legs)
	clear(m[2].Entry.Deps)
	if l := x.Asked(); !order.Same(l[1].Order, pay(2, "a", "b", 5)) {
		t.Error(l)
	}
	want := api.Msg{From: 0, To: 1, Kind: api.Pre, Inst: api.Inst{Rep: 0, Num: 2}, Entry: api.Entry{Order: pay(2, "a", "b", 5), Deps: []api.Inst{{Rep: 0, Num: 1}}}}
	if m := x.Bag(); !post.Same(m[2], want) {
		t.Error(m[2])
	}
	x.Calm(50)
	x.Told()[0].Rep = 9
	if l := x.Told(); l[0].Rep != 0 {
		t.Error(l)
	}
}
