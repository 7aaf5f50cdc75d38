package replica

import (
	"slices"

	"countinghouse/api"
	"countinghouse/insts"
)

// phase is how far an Inst that is led has come.
type phase int

const (
	asking phase = iota
	hearing
	agreeing
)

// lead is an Inst that is led. It is a value: what an answer does is tried on a copy, which is kept only if all could be stored.
type lead struct {
	phase phase
	// last is the message that was sent to all others, with the ballot and the entry.
	last     api.Msg
	answered votes
	// slots are what those that have answered reported.
	slots [api.MaxReps]api.Slot
}

func (l *lead) answer(from int, s api.Slot) {
	l.answered[from] = true
	l.slots[from] = s
}

// reports returns what was reported, in the order of the replicas.
func (l *lead) reports() []api.Slot {
	var some []api.Slot
	for from, answered := range l.answered {
		if answered {
			some = append(some, l.slots[from])
		}
	}
	return some
}

// union returns the entry with all Deps that were reported.
func (l *lead) union() api.Entry {
	e := l.last.Entry
	for _, s := range l.reports() {
		e.Deps = Union(e.Deps, s.Entry.Deps)
	}
	return e
}

// unanimous reports whether all n replicas have reported the Deps of the leader.
func (l *lead) unanimous(n int) bool {
	differs := func(s api.Slot) bool { return !slices.Equal(s.Entry.Deps, l.last.Entry.Deps) }
	return l.answered.count() == n && !slices.ContainsFunc(l.reports(), differs)
}

// begin leads an Inst in a new phase, of which the own report is there already.
func (r *Replica) begin(p phase, m api.Msg, own api.Slot) []api.Msg {
	l := lead{phase: p, last: m}
	l.answer(r.me, own)
	r.leads[m.Inst] = l
	return r.send(m, l.answered)
}

// ask begins the asking phase.
func (r *Replica) ask(i api.Inst) ([]api.Msg, api.Errno) {
	was := r.slots[i]
	s := was
	s.Ballot = api.PerRound*(max(s.Ballot, r.refused[i])/api.PerRound+1) + r.me
	if e := r.store(i, s); e != api.OK {
		return nil, e
	}
	delete(r.waited, i)
	return r.begin(asking, api.Msg{Kind: api.Prep, Inst: i, Ballot: s.Ballot}, was), api.OK
}

// hear begins the hearing phase. The entry has its dependencies.
func (r *Replica) hear(i api.Inst, ballot int, entry api.Entry) ([]api.Msg, api.Errno) {
	s := api.Slot{Ballot: ballot, State: api.Heard, By: ballot, Entry: entry}
	if e := r.store(i, s); e != api.OK {
		return nil, e
	}
	return r.begin(hearing, api.Msg{Kind: api.Pre, Inst: i, Ballot: ballot, Entry: entry}, s), api.OK
}

// propose begins the agreeing phase, unless a greater ballot is followed by now.
func (r *Replica) propose(i api.Inst, ballot int, entry api.Entry) ([]api.Msg, api.Errno) {
	if r.slots[i].Ballot > ballot {
		delete(r.leads, i)
		return nil, api.OK
	}
	s := api.Slot{Ballot: ballot, State: api.Agreed, By: ballot, Entry: entry}
	if e := r.store(i, s); e != api.OK {
		return nil, e
	}
	return r.begin(agreeing, api.Msg{Kind: api.Acc, Inst: i, Ballot: ballot, Entry: entry}, s), api.OK
}

// settle stores a committed entry, and executes what can be executed.
func (r *Replica) settle(i api.Inst, entry api.Entry) api.Errno {
	s := r.slots[i]
	s.State, s.Entry = api.Settled, entry
	if e := r.store(i, s); e != api.OK {
		return e
	}
	r.know(i, entry)
	r.runner.Run()
	delete(r.leads, i)
	// It will never be asked for again.
	delete(r.refused, i)
	return api.OK
}

// commit ends the leading of an Inst.
func (r *Replica) commit(i api.Inst, entry api.Entry) ([]api.Msg, api.Errno) {
	if e := r.settle(i, entry); e != api.OK {
		return nil, e
	}
	return r.send(api.Msg{Kind: api.Commit, Inst: i, Entry: entry}, votes{}), api.OK
}

// proceed does what follows from the reports of a lead.
func (r *Replica) proceed(l lead) ([]api.Msg, api.Errno) {
	i, ballot := l.last.Inst, l.last.Ballot
	count := l.answered.count()
	first := l.phase == hearing && ballot == 0
	if first && l.unanimous(r.n) {
		return r.commit(i, l.last.Entry)
	}
	if first && count < r.n || count < Majority(r.n) {
		r.leads[i] = l
		return nil, api.OK
	}
	switch l.phase {
	case hearing:
		return r.propose(i, ballot, l.union())
	case agreeing:
		return r.commit(i, l.last.Entry)
	}
	return r.decide(l)
}

// decide ends the asking phase.
func (r *Replica) decide(l lead) ([]api.Msg, api.Errno) {
	i, ballot := l.last.Inst, l.last.Ballot
	if r.slots[i].Ballot > ballot {
		delete(r.leads, i)
		return nil, api.OK
	}
	switch state, entry := Choose(l.reports()); state {
	case api.Agreed:
		return r.propose(i, ballot, entry)
	case api.Heard:
		return r.hear(i, ballot, r.withDeps(i, entry))
	}
	return r.propose(i, ballot, api.Entry{None: true})
}

// Tick processes a tick.
func (r *Replica) Tick() ([]api.Msg, api.Errno) {
	if r == nil {
		return nil, api.ErrArg
	}
	var out []api.Msg
	first := api.OK
	for _, i := range r.unsettled() {
		more, e := r.tick(i)
		out = append(out, more...)
		if first == api.OK {
			first = e
		}
	}
	for _, i := range insts.Sorted(r.announced) {
		m := api.Msg{Kind: api.Commit, Inst: i, Entry: r.slots[i].Entry}
		out = append(out, r.send(m, r.announced[i])...)
	}
	return r.resubmit(out, first)
}

// unsettled returns the Insts that a tick processes.
func (r *Replica) unsettled() []api.Inst {
	l := r.runner.Missing()
	for i, s := range r.slots {
		if s.State == api.Heard || s.State == api.Agreed {
			l = append(l, i)
		}
	}
	return Union(l, r.Leads())
}

func (r *Replica) tick(i api.Inst) ([]api.Msg, api.Errno) {
	if l, led := r.leads[i]; led {
		if l.phase == hearing && l.last.Ballot == 0 && l.answered.count() >= Majority(r.n) {
			return r.propose(i, 0, l.union())
		}
		return r.send(l.last, l.answered), api.OK
	}
	r.waited[i]++
	if r.waited[i] <= 2+3*r.behind(i.Rep) {
		return nil, api.OK
	}
	return r.ask(i)
}

// behind is how far this replica comes after another one, in a circle.
func (r *Replica) behind(rep int) int {
	return ((r.me-rep)%r.n + r.n) % r.n
}
