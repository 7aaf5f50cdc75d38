package runner_test

import (
	"math/rand"
	"slices"
	"testing"

	"countinghouse/api"
	"countinghouse/book"
	"countinghouse/clash"
	"countinghouse/knots"
	"countinghouse/order"
	"countinghouse/runner"
)

func at(rep, num int) api.Inst { return api.Inst{Rep: rep, Num: num} }

func ats(l ...api.Inst) []api.Inst { return l }

func id(seq int) api.Id { return api.Id{Client: 3, Seq: seq} }

func ask(seq int, acct string) api.Order {
	return api.Order{Id: id(seq), Kind: api.Ask, Acct: acct}
}

func open(seq int, acct string) api.Order {
	return api.Order{Id: id(seq), Kind: api.Open, Acct: acct, Sum: 5}
}

func entry(o api.Order, deps ...api.Inst) api.Entry { return api.Entry{Order: o, Deps: deps} }

func none(deps ...api.Inst) api.Entry { return api.Entry{None: true, Deps: deps} }

func commit(t *testing.T, r *runner.Runner, i api.Inst, e api.Entry, want api.Errno) {
	t.Helper()
	if got := r.Commit(i, e); got != want {
		t.Errorf("%v: %d, not %d", i, got, want)
	}
}

func lists(t *testing.T, r *runner.Runner, known, waits, missing []api.Inst) {
	t.Helper()
	if got := r.Known(); !slices.Equal(got, known) {
		t.Error("known", got, known)
	}
	if got := r.Waits(); !slices.Equal(got, waits) {
		t.Error("waits", got, waits)
	}
	if got := r.Missing(); !slices.Equal(got, missing) {
		t.Error("missing", got, missing)
	}
}

func ran(t *testing.T, r *runner.Runner, want ...api.Inst) []runner.Did {
	t.Helper()
	l := r.Run()
	var got []api.Inst
	for _, d := range l {
		got = append(got, d.Inst)
	}
	if !slices.Equal(got, want) {
		t.Error("ran", got, "not", want)
	}
	return l
}

func TestRightP14_1(t *testing.T) {
	a := ask(1, "a")
	with := func(o api.Order) api.Entry { return api.Entry{None: true, Order: o} }
	for n, x := range []struct {
		i    api.Inst
		e    api.Entry
		want bool
	}{
		{at(0, 1), entry(a), true},
		{at(6, 10000), entry(a), true},
		{at(-1, 1), entry(a), false},
		{at(7, 1), entry(a), false},
		{at(0, 0), entry(a), false},
		{at(0, 10001), entry(a), false},
		{at(0, 1), none(), true},
		{at(7, 1), none(), false},
		{at(0, 1), api.Entry{}, false},
		{at(0, 1), entry(ask(0, "a")), false},
		{at(0, 1), with(a), false},
		{at(0, 1), with(api.Order{Note: "x"}), false},
		{at(0, 1), with(api.Order{Legs: []api.Leg{}}), true},
		{at(0, 1), with(api.Order{Legs: []api.Leg{{}}}), false},
		{at(0, 1), entry(a, at(0, 2)), true},
		{at(0, 1), entry(a, at(0, 1)), false},
		{at(0, 1), none(at(0, 1)), false},
		{at(0, 2), entry(a, at(0, 1), at(0, 2), at(0, 3)), false},
		{at(0, 1), entry(a, at(0, 2), at(0, 10000), at(1, 1), at(6, 1)), true},
		{at(0, 1), none(at(0, 2), at(1, 1)), true},
		{at(0, 1), entry(a, at(1, 1), at(0, 2)), false},
		{at(0, 1), none(at(1, 1), at(0, 2)), false},
		{at(0, 1), entry(a, at(1, 2), at(1, 1)), false},
		{at(0, 1), entry(a, at(1, 1), at(1, 1)), false},
		{at(0, 1), entry(a, at(-1, 1)), false},
		{at(0, 1), entry(a, at(7, 1)), false},
		{at(0, 1), entry(a, at(1, 0)), false},
		{at(0, 1), entry(a, at(1, 10001)), false},
	} {
		if got := runner.Right(x.i, x.e); got != x.want {
			t.Error(n, got)
		}
		want := api.OK
		if !x.want {
			want = api.ErrArg
		}
		r := runner.New()
		commit(t, r, x.i, x.e, want)
		if len(r.Known()) > 0 != x.want {
			t.Error(n, r.Known())
		}
	}
}

func TestSameAndAheadP14_1(t *testing.T) {
	l := []api.Entry{
		{}, none(), entry(ask(1, "a")), entry(ask(1, "b")), entry(ask(1, "a"), at(1, 1)), none(at(1, 1)), none(at(1, 1), at(1, 2)), none(at(1, 2)),
		{None: true, Order: ask(1, "a")},
	}
	for i, a := range l {
		for j, b := range l {
			if runner.Same(a, b) != (i == j) {
				t.Error(i, j)
			}
		}
	}
	if !runner.Same(api.Entry{Deps: ats(), Order: api.Order{Legs: []api.Leg{}}}, api.Entry{}) {
		t.Error("nil and empty")
	}
	insts := ats(at(-5, 9), at(0, -1), at(0, 1), at(0, 2), at(1, 1), at(6, 10000), at(7, 0))
	for i, a := range insts {
		for j, b := range insts {
			if runner.Ahead(a, b) != (i < j) {
				t.Error(a, b)
			}
		}
	}
}

func TestCommitTwiceP14_1(t *testing.T) {
	r := runner.New()
	e := entry(ask(1, "a"), at(1, 1))
	commit(t, r, at(0, 1), e, api.OK)
	commit(t, r, at(0, 1), e, api.OK)
	commit(t, r, at(0, 1), entry(ask(1, "a")), api.ErrThere)
	commit(t, r, at(0, 1), entry(ask(2, "a"), at(1, 1)), api.ErrThere)
	commit(t, r, at(0, 1), none(at(1, 1)), api.ErrThere)
	commit(t, r, at(0, 1), api.Entry{}, api.ErrArg)
	e.Deps[0] = at(5, 5)
	lists(t, r, ats(at(0, 1)), ats(at(0, 1)), ats(at(1, 1)))
	commit(t, r, at(1, 1), none(), api.OK)
	ran(t, r, at(0, 1))
	commit(t, r, at(0, 1), entry(ask(1, "a")), api.ErrThere)
	commit(t, r, at(0, 1), entry(ask(1, "a"), at(1, 1)), api.OK)
	lists(t, r, ats(at(0, 1), at(1, 1)), nil, nil)
	ran(t, r)
}

func TestRunWaitsP14_1(t *testing.T) {
	r := runner.New()
	lists(t, r, nil, nil, nil)
	ran(t, r)
	commit(t, r, at(0, 1), entry(ask(2, "a"), at(1, 1)), api.OK)
	ran(t, r)
	if _, told := r.Told(id(2)); told || len(r.List()) != 0 {
		t.Error("executed")
	}
	lists(t, r, ats(at(0, 1)), ats(at(0, 1)), ats(at(1, 1)))
	commit(t, r, at(1, 1), entry(open(1, "a")), api.OK)
	l := ran(t, r, at(1, 1), at(0, 1))
	want := []runner.Did{{Inst: at(1, 1), Id: id(1)}, {Inst: at(0, 1), Id: id(2)}}
	if !slices.Equal(l, want) {
		t.Error(l)
	}
	lists(t, r, ats(at(0, 1), at(1, 1)), nil, nil)
	ran(t, r)
	if l := r.List(); len(l) != 2 || !order.Same(l[0], open(1, "a")) || !order.Same(l[1], ask(2, "a")) {
		t.Error(l)
	}
	_, b := book.Fold(r.List())
	if !book.Same(r.Book(), b) {
		t.Error("the book differs")
	}
}

func TestChainWaitsForTheLastP14_1(t *testing.T) {
	r := runner.New()
	commit(t, r, at(0, 1), entry(ask(1, "a"), at(1, 1)), api.OK)
	commit(t, r, at(1, 1), entry(ask(2, "a"), at(2, 1), at(2, 2)), api.OK)
	commit(t, r, at(2, 2), none(at(0, 1)), api.OK)
	commit(t, r, at(4, 1), entry(ask(4, "a")), api.OK)
	ran(t, r, at(4, 1))
	lists(t, r, ats(at(0, 1), at(1, 1), at(2, 2), at(4, 1)), ats(at(0, 1), at(1, 1), at(2, 2)), ats(at(2, 1)))
	commit(t, r, at(2, 1), none(), api.OK)
	ran(t, r, at(0, 1), at(1, 1))
	lists(t, r, ats(at(0, 1), at(1, 1), at(2, 1), at(2, 2), at(4, 1)), nil, nil)
}

// What has been executed is still in the graph, and so delays what depends on it.
func TestKnownButExecutedP14_1(t *testing.T) {
	r := runner.New()
	commit(t, r, at(2, 1), entry(ask(1, "a")), api.OK)
	ran(t, r, at(2, 1))
	commit(t, r, at(0, 1), entry(ask(2, "a"), at(2, 1)), api.OK)
	commit(t, r, at(1, 1), entry(ask(3, "b")), api.OK)
	ran(t, r, at(1, 1), at(0, 1))
}

func TestKnotP14_1(t *testing.T) {
	r := runner.New()
	commit(t, r, at(1, 2), entry(ask(3, "a"), at(0, 1), at(1, 1)), api.OK)
	commit(t, r, at(0, 1), entry(ask(1, "a"), at(1, 2)), api.OK)
	commit(t, r, at(1, 1), entry(ask(2, "a"), at(1, 2)), api.OK)
	commit(t, r, at(0, 2), entry(ask(4, "b")), api.OK)
	ran(t, r, at(0, 1), at(1, 1), at(1, 2), at(0, 2))
}

func TestSameIdAgainP14_1(t *testing.T) {
	r := runner.New()
	commit(t, r, at(0, 1), entry(open(1, "a")), api.OK)
	commit(t, r, at(1, 1), entry(open(1, "a"), at(0, 1)), api.OK)
	commit(t, r, at(2, 1), entry(ask(1, "z"), at(1, 1)), api.OK)
	commit(t, r, at(3, 1), entry(open(2, "a"), at(2, 1)), api.OK)
	l := r.Run()
	want := []runner.Did{
		{Inst: at(0, 1), Id: id(1)}, {Inst: at(1, 1), Id: id(1), Again: true}, {Inst: at(2, 1), Id: id(1), Again: true},
		{Inst: at(3, 1), Id: id(2), Reply: api.Reply{Err: api.ErrThere}},
	}
	if !slices.Equal(l, want) {
		t.Error(l)
	}
	if len(r.List()) != 2 || len(r.Book().Accts()) != 1 {
		t.Error(r.List())
	}
	commit(t, r, at(4, 1), entry(open(2, "b")), api.OK)
	want = []runner.Did{{Inst: at(4, 1), Id: id(2), Reply: api.Reply{Err: api.ErrThere}, Again: true}}
	if l := r.Run(); !slices.Equal(l, want) || len(r.Book().Accts()) != 1 {
		t.Error(l)
	}
	if reply, told := r.Told(id(2)); !told || reply != (api.Reply{Err: api.ErrThere}) {
		t.Error(reply, told)
	}
	if reply, told := r.Told(id(3)); told || reply != (api.Reply{}) {
		t.Error(reply, told)
	}
}

func TestNilRunnerP14_1(t *testing.T) {
	var r *runner.Runner
	commit(t, r, at(0, 1), none(), api.ErrArg)
	lists(t, r, nil, nil, nil)
	ran(t, r)
	if reply, told := r.Told(id(1)); told || reply != (api.Reply{}) || len(r.List()) != 0 || r.Book() != nil {
		t.Error("nil")
	}
}

func TestCopiesP14_1(t *testing.T) {
	r := runner.New()
	o := api.Order{Id: id(3), Kind: api.Post, Period: 1, Legs: []api.Leg{{Acct: "a", Sum: -1}, {Acct: "b", Sum: 1}}}
	e := entry(o, at(1, 1))
	commit(t, r, at(0, 1), e, api.OK)
	clear(e.Order.Legs)
	clear(e.Deps)
	commit(t, r, at(1, 1), entry(open(1, "a")), api.OK)
	ran(t, r, at(1, 1), at(0, 1))
	clear(r.List()[1].Legs)
	if l := r.List(); len(l[1].Legs) != 2 || l[1].Legs[0].Sum != -1 {
		t.Error(l)
	}
	r.Book().Do(open(9, "z"))
	if len(r.Book().Accts()) != 1 {
		t.Error(r.Book().Accts())
	}
}

// plain is a runner in the plainest way: everything that is known, and what was done.
type plain struct {
	known map[api.Inst]api.Entry
	done  []api.Inst
}

func (p *plain) run() []api.Inst {
	var insts []api.Inst
	for i := range p.known {
		insts = append(insts, i)
	}
	slices.SortFunc(insts, func(a, b api.Inst) int { return 10001*(a.Rep-b.Rep) + a.Num - b.Num })
	g := make([][]int, len(insts)+1)
	known := make([]bool, len(insts))
	for n, i := range insts {
		known[n] = true
		for _, dep := range p.known[i].Deps {
			to := slices.Index(insts, dep)
			if to < 0 {
				to = len(insts)
			}
			g[n] = append(g[n], to)
		}
	}
	var l []api.Inst
	open := knots.Open(g, known)
	for _, n := range knots.Order(g[:len(insts)]) {
		if slices.Contains(open, n) && !slices.Contains(p.done, insts[n]) {
			p.done = append(p.done, insts[n])
			if !p.known[insts[n]].None {
				l = append(l, insts[n])
			}
		}
	}
	return l
}

func anyOrder(r *rand.Rand, seq int) api.Order {
	x := string(rune('a' + r.Intn(3)))
	switch r.Intn(6) {
	case 0:
		return open(seq, x)
	case 1:
		return api.Order{Id: id(seq), Kind: api.Post, Period: 1 + r.Intn(3), Legs: []api.Leg{{Acct: x, Sum: -1}, {Acct: "d", Sum: 1}}}
	case 2:
		return api.Order{Id: id(seq), Kind: api.Close, Period: 1 + r.Intn(3)}
	}
	return ask(seq, x)
}

// anyEntries makes entries of which any two that conflict depend on each other, in one way or both.
func anyEntries(r *rand.Rand, n int) map[api.Inst]api.Entry {
	m := map[api.Inst]api.Entry{}
	var insts []api.Inst
	for k := range n {
		i := at(r.Intn(3), k+1)
		e := entry(anyOrder(r, 1+r.Intn(n)))
		if r.Intn(8) == 0 {
			e = none()
		}
		for _, j := range insts {
			o := m[j]
			must := !e.None && !o.None && clash.Clash(e.Order, o.Order)
			way := r.Intn(8)
			if must && way < 6 || way == 0 {
				e.Deps = append(e.Deps, j)
			}
			if must && way > 4 {
				o.Deps = append(o.Deps, i)
				m[j] = o
			}
		}
		m[i] = e
		insts = append(insts, i)
	}
	for i, e := range m {
		slices.SortFunc(e.Deps, func(a, b api.Inst) int { return 10001*(a.Rep-b.Rep) + a.Num - b.Num })
		m[i] = e
	}
	return m
}

func TestAnyOrderOfCommitsP14_1P14_2(t *testing.T) {
	r := rand.New(rand.NewSource(14))
	for range 400 {
		m := anyEntries(r, 1+r.Intn(14))
		var first []api.Order
		for turn := range 3 {
			l := commitAll(t, r, m)
			if turn == 0 {
				first = l
			} else if !clash.Alike(first, l) {
				t.Fatal(first, l)
			}
		}
	}
}

func commitAll(t *testing.T, r *rand.Rand, m map[api.Inst]api.Entry) []api.Order {
	t.Helper()
	var insts []api.Inst
	for i := range m {
		insts = append(insts, i)
	}
	slices.SortFunc(insts, func(a, b api.Inst) int { return a.Num - b.Num })
	r.Shuffle(len(insts), func(i, j int) { insts[i], insts[j] = insts[j], insts[i] })
	x := runner.New()
	p := plain{known: map[api.Inst]api.Entry{}}
	for k, i := range insts {
		commit(t, x, i, m[i], api.OK)
		p.known[i] = m[i]
		if r.Intn(3) == 0 || k == len(insts)-1 {
			ran(t, x, p.run()...)
		}
	}
	if len(x.Waits()) != 0 || len(x.Missing()) != 0 {
		t.Fatal(x.Waits(), x.Missing())
	}
	if l := x.List(); !clash.Right(l) {
		t.Fatal("an order was executed twice", l)
	}
	return x.List()
}
