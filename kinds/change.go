package kinds

import (
	"murmuration/api"
	"murmuration/store"
)

// kindElement is the Kind of fields that are a set's elements, rather than a map's fields.
const kindElement = 0

// change is what is done with a part.
type change func(part api.Store) api.Store

// within does it with the part of a path instead.
func within(do change, path ...api.Field) change {
	return func(whole api.Store) api.Store {
		return store.Set(whole, do(store.At(whole, path...)), path...)
	}
}

// changeOf falls through where an operation is the next one with something more: an Assign is a Put with a time, a Put an Enable with a text.
func changeOf(seen api.Clock, d api.Dot, u api.Update) change {
	e := api.Entry{Dot: d}
	put := func(part api.Store) api.Store { return store.Put(part, e) } // e as the switch leaves it
	forget := func(part api.Store) api.Store { return store.Drop(part, seen) }
	renew := func(part api.Store) api.Store { return put(forget(part)) }
	switch u.Op {
	case api.OpAdd:
		e.N = u.N
		return put
	case api.OpAssign:
		e.T = u.T
		fallthrough
	case api.OpPut:
		e.S = u.S
		fallthrough
	case api.OpEnable:
		return renew
	case api.OpInsert:
		return within(renew, element(u.S))
	case api.OpRemove:
		return within(forget, element(u.S))
	case api.OpDrop:
		return within(forget, api.Field{Kind: u.Kind, Name: u.S})
	}
	return forget
}

// element is the field of a set's element.
func element(name string) api.Field { return api.Field{Kind: kindElement, Name: name} }
