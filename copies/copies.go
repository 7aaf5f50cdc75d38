// Package copies makes copies that share no memory with what they were made of.
package copies

import (
	"slices"

	"countinghouse/api"
)

// Order returns a copy of o with legs of its own.
func Order(o api.Order) api.Order {
	o.Legs = slices.Clone(o.Legs)
	return o
}

// All returns the copies of all elements of l.
func All[T any](l []T, one func(T) T) []T {
	var all []T
	for _, x := range l {
		all = append(all, one(x))
	}
	return all
}

// Entry returns a copy of e with an order and dependencies of its own.
func Entry(e api.Entry) api.Entry {
	e.Order, e.Deps = Order(e.Order), slices.Clone(e.Deps)
	return e
}

// Record returns a copy of r with an entry of its own.
func Record(r api.Record) api.Record {
	r.Slot.Entry = Entry(r.Slot.Entry)
	return r
}

// Msg returns a copy of m with an entry of its own.
func Msg(m api.Msg) api.Msg {
	m.Entry = Entry(m.Entry)
	return m
}
