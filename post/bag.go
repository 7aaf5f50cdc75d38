package post

import (
	"slices"

	"countinghouse/api"
	"countinghouse/copies"
)

// Bag is messages in transit, in the order in which they were put there.
type Bag struct {
	msgs []api.Msg
}

// New returns an empty bag.
func New() *Bag {
	return &Bag{}
}

// Put appends the messages of l, and returns how many were not put there.
func (b *Bag) Put(l []api.Msg) int {
	if b == nil {
		return len(l)
	}
	return b.put(l...)
}

func (b *Bag) put(l ...api.Msg) int {
	refused := 0
	for _, m := range l {
		if len(b.msgs) >= api.MaxBag || !Right(m) {
			refused++
			continue
		}
		b.msgs = append(b.msgs, copies.Msg(m))
	}
	return refused
}

// Take removes a message and returns it.
func (b *Bag) Take(k int) (api.Msg, bool) {
	m, there := b.Look(k)
	if there {
		b.msgs = slices.Delete(b.msgs, k, k+1)
	}
	return m, there
}

// Look returns a message without removing it.
func (b *Bag) Look(k int) (api.Msg, bool) {
	if k < 0 || k >= b.Len() {
		return api.Msg{}, false
	}
	return copies.Msg(b.msgs[k]), true
}

// Twice appends a copy of a message.
func (b *Bag) Twice(k int) bool {
	m, there := b.Look(k)
	return there && b.put(m) == 0
}

// Len returns the number of messages.
func (b *Bag) Len() int {
	if b == nil {
		return 0
	}
	return len(b.msgs)
}

// All returns all messages.
func (b *Bag) All() []api.Msg {
	if b == nil {
		return nil
	}
	return copies.All(b.msgs, copies.Msg)
}

// For returns the indices of the messages to a replica.
func (b *Bag) For(to int) []int {
	if b == nil {
		return nil
	}
	var l []int
	for k, m := range b.msgs {
		if m.To == to {
			l = append(l, k)
		}
	}
	return l
}
