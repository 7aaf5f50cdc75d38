package replica_test

import (
	"math/rand"
	"slices"
	"testing"

	"countinghouse/api"
	"countinghouse/clash"
	"countinghouse/disk"
	"countinghouse/replica"
	"countinghouse/runner"
)

// sim is n replicas whose messages are lost, doubled and delivered in any order, and which crash.
type sim struct {
	*testing.T
	*rand.Rand
	n       int
	disks   []*disk.Disk
	reps    []*replica.Replica
	flight  []api.Msg
	settled map[api.Inst]api.Entry
	ballots map[int]map[api.Inst]int
	asked   []api.Order
}

func newSim(t *testing.T, r *rand.Rand, n, room int) *sim {
	t.Helper()
	s := &sim{T: t, Rand: r, n: n, settled: map[api.Inst]api.Entry{}, ballots: map[int]map[api.Inst]int{}}
	for k := range n {
		s.disks = append(s.disks, disk.New(room))
		s.reps = append(s.reps, mustNew(t, k, n, s.disks[k]))
		s.ballots[k] = map[api.Inst]int{}
	}
	return s
}

func (s *sim) anyOrder() api.Order {
	seq := len(s.asked) + 1
	x := string(rune('a' + s.Intn(3)))
	o := ask(seq, x)
	switch s.Intn(8) {
	case 0:
		o = api.Order{Id: o.Id, Kind: api.Open, Acct: x, Sum: 9}
	case 1:
		o = api.Order{Id: o.Id, Kind: api.Post, Period: 1, Legs: []api.Leg{{Acct: x, Sum: -1}, {Acct: "d", Sum: 1}}}
	case 2:
		o = api.Order{Id: o.Id, Kind: api.Close, Period: 1 + s.Intn(4)}
	case 3:
		if len(s.asked) > 0 {
			return s.asked[s.Intn(len(s.asked))]
		}
	}
	s.asked = append(s.asked, o)
	return o
}

func (s *sim) step(crashes bool) {
	k := s.Intn(s.n)
	r := s.reps[k]
	switch what := s.Intn(40); {
	case what == 0 && crashes:
		s.reps[k] = nil
		s.disks[k].Break()
	case what < 4 && r == nil:
		s.disks[k].Up(s.Intn(20), nil)
		s.reps[k] = mustNew(s.T, k, s.n, s.disks[k])
	case what < 6 && len(s.asked) < 12 && r != nil:
		out, _, _ := r.Submit(s.anyOrder())
		s.flight = append(s.flight, out...)
	case what < 12 && r != nil:
		out, _ := r.Tick()
		s.flight = append(s.flight, out...)
	case what < 14 && len(s.flight) > 0 && len(s.flight) < 500:
		s.flight = append(s.flight, s.flight[s.Intn(len(s.flight))])
	case what < 17 && len(s.flight) > 0:
		at := s.Intn(len(s.flight))
		s.flight = slices.Delete(s.flight, at, at+1)
	case len(s.flight) > 0:
		at := s.Intn(len(s.flight))
		m := s.flight[at]
		s.flight = slices.Delete(s.flight, at, at+1)
		s.bring(m)
	}
	s.check(s.Intn(s.n))
}

func (s *sim) bring(m api.Msg) {
	if r := s.reps[m.To]; r != nil {
		out, e := r.Take(m)
		if e == api.ErrArg {
			s.Fatal("not acceptable", m)
		}
		s.flight = append(s.flight, out...)
	}
}

// check checks what must always hold of a replica.
func (s *sim) check(k int) {
	s.Helper()
	if s.reps[k] == nil {
		return
	}
	stored := map[api.Inst]int{}
	for _, rec := range s.reps[k].Slots() {
		stored[rec.Inst] = rec.Slot.Ballot
		if rec.Slot.Ballot < s.ballots[k][rec.Inst] {
			s.Fatal("a slot got worse", k, rec)
		}
		if rec.Slot.State != api.Settled {
			continue
		}
		if e, there := s.settled[rec.Inst]; there && !runner.Same(e, rec.Slot.Entry) {
			s.Fatal("two entries at", rec.Inst, e, rec.Slot.Entry)
		}
		s.settled[rec.Inst] = rec.Slot.Entry
	}
	for i := range s.ballots[k] {
		if _, there := stored[i]; !there {
			s.Fatal("a slot is gone", k, i)
		}
	}
	s.ballots[k] = stored
}

// depend checks that of two committed entries that conflict one depends on the other.
func (s *sim) depend() {
	s.Helper()
	for i, e := range s.settled {
		for j, f := range s.settled {
			if i == j || e.None || f.None || !clash.Clash(e.Order, f.Order) {
				continue
			}
			if !slices.Contains(e.Deps, j) && !slices.Contains(f.Deps, i) {
				s.Fatal("neither depends on the other", i, e, j, f)
			}
		}
	}
}

// calm brings all replicas up, and all messages, until all has been executed.
func (s *sim) calm() {
	s.Helper()
	for k := range s.n {
		if s.reps[k] == nil {
			s.disks[k].Up(0, nil)
			s.reps[k] = mustNew(s.T, k, s.n, s.disks[k])
		}
	}
	for range 150 {
		flight := s.flight
		s.flight = nil
		for _, m := range flight {
			s.bring(m)
		}
		for k, r := range s.reps {
			out, e := r.Tick()
			if e != api.OK {
				s.Fatal(e)
			}
			s.flight = append(s.flight, out...)
			s.check(k)
		}
		if len(s.flight) == 0 && s.same() {
			break
		}
	}
	if !s.same() {
		s.Fatal("not calm", len(s.flight))
	}
}

// same reports whether all have executed equivalent lists, and wait for nothing.
func (s *sim) same() bool {
	for _, r := range s.reps {
		if len(r.Leads()) > 0 || len(r.Waits()) > 0 || !clash.Alike(r.List(), s.reps[0].List()) {
			return false
		}
		for _, rec := range r.Slots() {
			if rec.Slot.State == api.Heard || rec.Slot.State == api.Agreed {
				return false
			}
		}
	}
	return true
}

func TestWhateverHappensP16_2(t *testing.T) {
	r := rand.New(rand.NewSource(16))
	for round := range 160 {
		s := newSim(t, r, []int{3, 3, 5, 7}[round%4], 65536)
		for range 150 + 50*s.n {
			s.step(true)
		}
		s.depend()
		s.calm()
		s.depend()
		if len(s.reps[0].List()) > len(s.asked) {
			t.Fatal("more was executed than asked")
		}
		for _, o := range s.asked {
			one, _ := s.reps[0].Told(o.Id)
			for _, r := range s.reps {
				if other, _ := r.Told(o.Id); one != other {
					t.Fatal("two replies to", o, one, other)
				}
			}
		}
	}
}

// With full disks nothing may go on, but nothing may go wrong either.
func TestFullDisksP16_2(t *testing.T) {
	r := rand.New(rand.NewSource(17))
	for range 100 {
		s := newSim(t, r, 3, 200+r.Intn(900))
		for range 400 {
			s.step(true)
		}
		s.depend()
	}
}
