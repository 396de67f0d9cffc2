package cell

import (
	"slices"

	"murmuration/api"
	"murmuration/clock"
	"murmuration/kinds"
	"murmuration/store"
)

// data are the kind's parts: what can be said of them without the cell's clock.
type data struct {
	kind  int
	store api.Store
}

// parts need not be those of a Norm: the layers below take clocks and stores as that.
type parts struct {
	data
	clock api.Clock
}

func partsOf(c api.Cell) parts { return parts{data{c.Kind, c.Store}, c.Clock} }

func (p parts) cell() api.Cell { return api.Cell{Kind: p.kind, Clock: p.clock, Store: p.store} }

func (d data) isObject() bool { return d.kind == api.KindObject }

func (d data) changed(had api.Clock, by api.Dot, u api.Update) (data, api.Errno) {
	s, e := kinds.Apply(d.kind, d.store, had, by, u)
	return data{d.kind, s}, e
}

func (d data) told() api.Value { return kinds.Tell(d.kind, d.store) }
func (d data) dead() bool      { return store.Empty(d.store) }

func (d data) right() bool {
	return d.kind >= api.KindObject && d.kind <= api.KindMap && equal(d.store, store.Norm(d.store))
}

func (p parts) right() bool {
	return p.data.right() && slices.Equal(p.clock, clock.Norm(p.clock)) && covers(p.clock, store.Dots(p.store))
}

func (d data) same(o data) bool { return d.kind == o.kind && store.Same(d.store, o.store) }

func (p parts) same(o parts) bool { return p.data.same(o.data) && clock.Same(p.clock, o.clock) }

// joined is for parts of one kind.
func (p parts) joined(o parts) parts {
	s := store.Join(p.store, p.clock, o.store, o.clock)
	return parts{data{p.kind, s}, clock.Merge(p.clock, o.clock)}
}

// seenBy is what an update has seen. Who says nothing of it may have missed an object's texts, so that a Put leaves them; all else is meant for what the replica has.
func (p parts) seenBy(u api.Update, said ...api.Clock) api.Clock {
	switch {
	case len(said) > 0:
		return clock.Merge(said...)
	case p.isObject() && u.Op != api.OpDelete:
		return nil
	}
	return p.clock
}

// covers takes any dots as a clock, too: where an actor's greatest one is covered, all of them are.
func covers(c, part api.Clock) bool { return clock.Compare(part, c) <= 0 }

// equal takes stores as they are, so that it tells a store from its Norm.
func equal(a, b api.Store) bool {
	return slices.Equal(a.Entries, b.Entries) && slices.EqualFunc(a.Fields, b.Fields, func(x, y api.Field) bool {
		return x.Kind == y.Kind && x.Name == y.Name && equal(x.Store, y.Store)
	})
}
