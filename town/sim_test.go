package town_test

import (
	"bytes"
	"math/rand"
	"slices"
	"testing"

	"countinghouse/api"
	"countinghouse/book"
	"countinghouse/clash"
	"countinghouse/disk"
	"countinghouse/foata"
	"countinghouse/order"
	"countinghouse/town"
)

// sim is a town in which anything happens, and all lists that its replicas have executed.
type sim struct {
	*testing.T
	*rand.Rand
	x     *town.Town
	n     int
	lists [][]api.Order
	// firstAsked is the step in which an order was asked first.
	firstAsked map[api.Id]int
	orders     []api.Order
}

func newSim(t *testing.T, r *rand.Rand, n, room int) *sim {
	t.Helper()
	return &sim{T: t, Rand: r, x: town.New(n, room), n: n, firstAsked: map[api.Id]int{}}
}

func (s *sim) anyOrder() api.Order {
	seq := len(s.orders) + 1
	p := s.Perm(3)
	x, y, sum := string(rune('a'+p[0])), string(rune('a'+p[1])), int64(1+s.Intn(4))
	o := ask(seq, x)
	switch s.Intn(12) {
	case 0, 1:
		o = open(seq, x, 9)
	case 2, 3, 4:
		o = pay(seq, x, y, sum)
	case 5:
		o = api.Order{Id: id(seq), Kind: api.Hold, Acct: x, Sum: sum}
	case 6:
		o = api.Order{Id: id(seq), Kind: api.Close, Period: 1 + s.Intn(2)}
	case 7:
		if len(s.orders) > 0 {
			return s.orders[s.Intn(len(s.orders))]
		}
	case 8:
		o = api.Order{Id: id(seq), Kind: api.Capture, Acct: x, Peer: y, Sum: 1, Hold: 1001 + s.Intn(seq), Period: 2}
	}
	s.orders = append(s.orders, o)
	return o
}

func (s *sim) any() town.Step {
	k := s.Intn(s.n)
	at := s.Intn(len(s.x.Bag()) + 1)
	switch p := s.Intn(60); {
	case p < 3 && len(s.orders) < 16:
		return asking(k, s.anyOrder())
	case p < 4:
		return step(town.Crash, k)
	case p < 8:
		return town.Step{Kind: town.Up, A: k, B: s.Intn(9), Spoil: []disk.Spoil{{At: s.Intn(5), B: 7}}}
	case p < 13:
		return step(town.Tick, k)
	case p < 15 && len(s.x.Bag()) < 100:
		return step(town.Double, at)
	case p < 19:
		return step(town.Lose, at)
	case p < 20:
		return step(town.Round, 0)
	}
	return step(town.Bring, at)
}

func (s *sim) step(x town.Step) {
	s.x.Do(x)
	if l := s.x.Asked(); len(l) > 0 && l[len(l)-1].Step == s.x.Steps() {
		id := l[len(l)-1].Order.Id
		if _, before := s.firstAsked[id]; !before {
			s.firstAsked[id] = s.x.Steps()
		}
	}
	for k := range s.n {
		l := s.x.Replica(k).List()
		same := func(m []api.Order) bool { return slices.EqualFunc(l, m, order.Same) }
		if len(l) > 0 && !slices.ContainsFunc(s.lists, same) {
			s.lists = append(s.lists, l)
		}
		s.money(k)
	}
}

func (s *sim) money(k int) {
	s.Helper()
	var total int64
	for _, a := range s.x.Replica(k).Book().Accts() {
		total += a.Have
		if a.Have-a.Set < -a.Limit {
			s.Fatal("overdrawn", a)
		}
	}
	if total != 0 {
		s.Fatal("the total is", total)
	}
}

// oneHistory checks P18.1, P18.2 and P18.3 of all lists so far.
func (s *sim) oneHistory() {
	s.Helper()
	var all []api.Order
	for _, l := range s.lists {
		if !clash.Right(l) {
			s.Fatal("executed twice", l)
		}
		both, ok := clash.Meet(all, l)
		if !ok {
			s.Fatal("two histories", all, l)
		}
		all = both
	}
	for _, l := range s.lists {
		if !clash.Begins(l, all) {
			s.Fatal("not the same history", l, all)
		}
	}
	s.sameBytes()
	replies, _ := book.Fold(all)
	want := map[api.Id]api.Reply{}
	for k, o := range all {
		want[o.Id] = replies[k]
		isAsked := func(p api.Order) bool { return order.Same(o, p) }
		if !slices.ContainsFunc(s.orders, isAsked) || s.firstAsked[o.Id] == 0 {
			s.Fatal("never asked", o)
		}
	}
	places := map[[2]int]int{}
	for _, y := range s.x.Told() {
		if reply, executed := want[y.Id]; !executed || reply != y.Reply {
			s.Fatal("told", y, "not", reply)
		}
		if places[[2]int{y.Rep, y.Id.Seq}]++; places[[2]int{y.Rep, y.Id.Seq}] > 1 {
			s.Fatal("told twice", y)
		}
		s.realTime(y, all)
	}
}

// sameBytes checks that lists with the same orders have the same Export.
func (s *sim) sameBytes() {
	s.Helper()
	bytesOf := map[string]string{}
	for _, l := range s.lists {
		var seqs []byte
		for _, o := range l {
			seqs = append(seqs, byte(o.Id.Seq))
		}
		slices.Sort(seqs)
		b, e := foata.Export(l)
		if other, there := bytesOf[string(seqs)]; e != api.OK || there && other != string(b) {
			s.Fatal("other bytes", l, e)
		}
		bytesOf[string(seqs)] = string(b)
	}
}

// realTime checks that what was told comes before what was asked later and conflicts with it.
func (s *sim) realTime(y town.Told, all []api.Order) {
	s.Helper()
	var told api.Order
	for _, o := range s.orders {
		if o.Id == y.Id {
			told = o
		}
	}
	for _, l := range append(s.lists, all) {
		seen := false
		for _, o := range l {
			seen = seen || o.Id == y.Id
			if !seen && s.firstAsked[o.Id] > y.Step && clash.Clash(told, o) {
				s.Fatal("told too early", y, o, l)
			}
		}
	}
}

// calm brings all up, and lets nothing be lost any more.
func (s *sim) calm() {
	s.Helper()
	for k := range s.n {
		s.step(step(town.Up, k))
	}
	for range 80 {
		s.step(step(town.Round, 0))
	}
	if n := s.x.Calm(300); n == 300 {
		s.Fatal("no calm", len(s.x.Bag()))
	}
	first, e := town.Export(s.x, 0)
	for k := range s.n {
		b, f := town.Export(s.x, k)
		if e != api.OK || f != api.OK || !bytes.Equal(first, b) {
			s.Fatal("other bytes", k, e, f)
		}
		for _, a := range s.x.Asked() {
			if _, executed := s.x.Replica(k).Told(a.Order.Id); !executed {
				s.Fatal("not executed", k, a)
			}
		}
	}
	for _, a := range s.x.Asked() {
		isIt := func(y town.Told) bool { return y.Rep == a.Rep && y.Id == a.Order.Id }
		if !slices.ContainsFunc(s.x.Told(), isIt) {
			s.Fatal("not told", a)
		}
	}
}

func TestWhateverHappensP18_1P18_2P18_3P18_4(t *testing.T) {
	r := rand.New(rand.NewSource(18))
	for round := range 120 {
		s := newSim(t, r, []int{3, 3, 5, 7}[round%4], 65536)
		for range 200 + 40*s.n {
			s.step(s.any())
		}
		s.oneHistory()
		s.calm()
		s.oneHistory()
	}
}

// With full disks not all goes on, but what does is one history.
func TestFullDisksP18_1P18_2(t *testing.T) {
	r := rand.New(rand.NewSource(19))
	for range 60 {
		s := newSim(t, r, 3, 300+r.Intn(900))
		for range 300 {
			s.step(s.any())
		}
		s.oneHistory()
	}
}
