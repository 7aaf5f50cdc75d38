package replica

import (
	"countinghouse/api"
	"countinghouse/copies"
	"countinghouse/log"
	"countinghouse/order"
)

// effects are what the Kinds of messages do.
func effects() map[int]func(*Replica, api.Msg) ([]api.Msg, api.Errno) {
	return map[int]func(*Replica, api.Msg) ([]api.Msg, api.Errno){
		api.Pre:     (*Replica).pre,
		api.PreOK:   (*Replica).preOK,
		api.Acc:     (*Replica).acc,
		api.AccOK:   (*Replica).accOK,
		api.Commit:  (*Replica).committed,
		api.Prep:    (*Replica).prep,
		api.PrepOK:  (*Replica).prepOK,
		api.Refused: (*Replica).wasRefused,
		api.Got:     (*Replica).got,
	}
}

// Take processes a message.
func (r *Replica) Take(m api.Msg) ([]api.Msg, api.Errno) {
	if r == nil || !r.accepts(m) {
		return nil, api.ErrArg
	}
	out, e := effects()[m.Kind](r, copies.Msg(m))
	if e == api.OK {
		delete(r.waited, m.Inst)
	}
	return r.resubmit(out, e)
}

// accepts reports whether m is acceptable. What the Kind of m does not have is not looked at.
func (r *Replica) accepts(m api.Msg) bool {
	if m.To != r.me || m.From == r.me || m.From < 0 || m.From >= r.n || m.Inst.Rep >= r.n {
		return false
	}
	s := api.Slot{Ballot: m.Ballot}
	switch m.Kind {
	case api.Pre, api.PreOK, api.Acc, api.Commit:
		s.State, s.Entry = api.Settled, m.Entry
	case api.PrepOK:
		s.State, s.By, s.Entry = m.State, m.By, m.Entry
	case api.AccOK, api.Prep, api.Refused, api.Got:
	default:
		return false
	}
	if m.Entry.None && (m.Kind == api.Pre || m.Kind == api.PreOK) {
		return false
	}
	return log.Right(api.Record{Inst: m.Inst, Slot: s})
}

// reply is the answer to m, of which the caller fills in the rest.
func (r *Replica) reply(m, answer api.Msg) []api.Msg {
	answer = copies.Msg(answer)
	answer.From, answer.To, answer.Inst = r.me, m.From, m.Inst
	return []api.Msg{answer}
}

// late returns the answer to a Pre, an Acc or a Prep that comes too late.
func (r *Replica) late(m api.Msg) ([]api.Msg, bool) {
	s := r.slots[m.Inst]
	if s.State == api.Settled {
		return r.reply(m, api.Msg{Kind: api.Commit, Entry: s.Entry}), true
	}
	if s.Ballot > m.Ballot {
		return r.reply(m, api.Msg{Kind: api.Refused, Ballot: s.Ballot}), true
	}
	return nil, false
}

func (r *Replica) pre(m api.Msg) ([]api.Msg, api.Errno) {
	if out, late := r.late(m); late {
		return out, api.OK
	}
	s := r.slots[m.Inst]
	if s.State == api.Agreed && s.By == m.Ballot {
		return nil, api.OK
	}
	if s.State != api.Heard || s.By != m.Ballot || !order.Same(s.Entry.Order, m.Entry.Order) {
		s = api.Slot{Ballot: m.Ballot, State: api.Heard, By: m.Ballot, Entry: r.withDeps(m.Inst, m.Entry)}
		if e := r.store(m.Inst, s); e != api.OK {
			return nil, e
		}
	}
	return r.reply(m, api.Msg{Kind: api.PreOK, Ballot: m.Ballot, Entry: s.Entry}), api.OK
}

func (r *Replica) acc(m api.Msg) ([]api.Msg, api.Errno) {
	if out, late := r.late(m); late {
		return out, api.OK
	}
	s := api.Slot{Ballot: m.Ballot, State: api.Agreed, By: m.Ballot, Entry: m.Entry}
	if e := r.store(m.Inst, s); e != api.OK {
		return nil, e
	}
	return r.reply(m, api.Msg{Kind: api.AccOK, Ballot: m.Ballot}), api.OK
}

func (r *Replica) committed(m api.Msg) ([]api.Msg, api.Errno) {
	if r.slots[m.Inst].State != api.Settled {
		if e := r.settle(m.Inst, m.Entry); e != api.OK {
			return nil, e
		}
	}
	return r.reply(m, api.Msg{Kind: api.Got}), api.OK
}

func (r *Replica) prep(m api.Msg) ([]api.Msg, api.Errno) {
	if out, late := r.late(m); late {
		return out, api.OK
	}
	s := r.slots[m.Inst]
	s.Ballot = m.Ballot
	if e := r.store(m.Inst, s); e != api.OK {
		return nil, e
	}
	return r.reply(m, api.Msg{Kind: api.PrepOK, Ballot: m.Ballot, State: s.State, By: s.By, Entry: s.Entry}), api.OK
}

func (r *Replica) preOK(m api.Msg) ([]api.Msg, api.Errno)  { return r.answered(m, hearing) }
func (r *Replica) accOK(m api.Msg) ([]api.Msg, api.Errno)  { return r.answered(m, agreeing) }
func (r *Replica) prepOK(m api.Msg) ([]api.Msg, api.Errno) { return r.answered(m, asking) }

// answered records an answer, if it is one to the last message of a lead in this phase.
func (r *Replica) answered(m api.Msg, p phase) ([]api.Msg, api.Errno) {
	l, led := r.leads[m.Inst]
	if !led || l.last.Ballot != m.Ballot || l.phase != p {
		return nil, api.OK
	}
	l.answer(m.From, api.Slot{Ballot: m.Ballot, State: m.State, By: m.By, Entry: m.Entry})
	return r.proceed(l)
}

func (r *Replica) wasRefused(m api.Msg) ([]api.Msg, api.Errno) {
	if l, led := r.leads[m.Inst]; led && l.last.Ballot < m.Ballot {
		delete(r.leads, m.Inst)
		r.refused[m.Inst] = max(r.refused[m.Inst], m.Ballot)
	}
	return nil, api.OK
}

func (r *Replica) got(m api.Msg) ([]api.Msg, api.Errno) {
	answered, announced := r.announced[m.Inst]
	if !announced {
		return nil, api.OK
	}
	answered[m.From] = true
	r.announced[m.Inst] = answered
	if answered.count() == r.n-1 {
		delete(r.announced, m.Inst)
	}
	return nil, api.OK
}
