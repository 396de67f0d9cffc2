package kinds_test

import (
	"fmt"
	"math"
	"strings"
	"testing"

	"murmuration/api"
	"murmuration/kinds"
)

const most = math.MaxUint64

// told is a store or a value just as it stands, but that a nil list is an empty one.
func told(x any) string { return strings.ReplaceAll(fmt.Sprintf("%#v", x), "(nil)", "{}") }

func is(t *testing.T, what string, got, want any) {
	t.Helper()
	if g, w := told(got), told(want); g != w {
		t.Errorf("%s: %s, want %s", what, g, w)
	}
}

// Entries, as an Enable or an Insert, an Add, a Put, an Assign puts them.

func mark(actor, n uint64) api.Entry { return api.Entry{Dot: api.Dot{Actor: actor, N: n}} }

func number(actor, n uint64, k int64) api.Entry {
	e := mark(actor, n)
	e.N = k
	return e
}

func text(actor, n uint64, s string) api.Entry {
	e := mark(actor, n)
	e.S = s
	return e
}

func timed(actor, n uint64, s string, time uint64) api.Entry {
	e := text(actor, n, s)
	e.T = time
	return e
}

// of is a store of entries and fields, in whatever order they come.
func of(parts ...any) api.Store {
	var s api.Store
	for _, p := range parts {
		switch x := p.(type) {
		case api.Entry:
			s.Entries = append(s.Entries, x)
		case api.Field:
			s.Fields = append(s.Fields, x)
		}
	}
	return s
}

func field(kind int, name string, parts ...any) api.Field {
	return api.Field{Kind: kind, Name: name, Store: of(parts...)}
}

// seen is a clock of actors and their N, by turns.
func seen(l ...uint64) api.Clock {
	var c api.Clock
	for i := 0; i < len(l); i += 2 {
		c = append(c, api.Dot{Actor: l[i], N: l[i+1]})
	}
	return c
}

// Updates.

func op(o int) api.Update        { return api.Update{Op: o} }
func put(s string) api.Update    { return api.Update{Op: api.OpPut, S: s} }
func add(n int64) api.Update     { return api.Update{Op: api.OpAdd, N: n} }
func insert(s string) api.Update { return api.Update{Op: api.OpInsert, S: s} }
func remove(s string) api.Update { return api.Update{Op: api.OpRemove, S: s} }
func assign(s string, time uint64) api.Update {
	return api.Update{Op: api.OpAssign, S: s, T: time}
}
func dropping(kind int, name string) api.Update {
	return api.Update{Op: api.OpDrop, Kind: kind, S: name}
}

func in(u api.Update, path ...api.Field) api.Update {
	u.Path = path
	return u
}

// down is a path of n fields, all of them maps but the last one.
func down(n, last int) []api.Field {
	var l []api.Field
	for i := range n {
		kind := api.KindMap
		if i == n-1 {
			kind = last
		}
		l = append(l, api.Field{Kind: kind, Name: "d"})
	}
	return l
}

// deep has the parts behind such a path.
func deep(n, last int, parts ...any) api.Store {
	s := of(parts...)
	path := down(n, last)
	for i := range path {
		f := path[n-1-i]
		f.Store = s
		s = of(f)
	}
	return s
}

// event is an update with its dot and what it had seen.
type event struct {
	dot  api.Dot
	seen api.Clock
	u    api.Update
}

func by(actor, n uint64, u api.Update, saw ...uint64) event {
	return event{api.Dot{Actor: actor, N: n}, seen(saw...), u}
}

// applied says that the events may be, one by one.
func applied(t *testing.T, kind int, s api.Store, l ...event) api.Store {
	t.Helper()
	for _, x := range l {
		next, e := kinds.Apply(kind, s, x.seen, x.dot, x.u)
		if e != api.OK {
			t.Fatalf("Apply of kind %d, %s: %d", kind, told(x), int(e))
		}
		s = next
	}
	return s
}

// refused says that an update has the error, of Apply with nothing else told.
func refused(t *testing.T, kind int, s api.Store, x event, want api.Errno) {
	t.Helper()
	got, e := kinds.Apply(kind, s, x.seen, x.dot, x.u)
	if e != want || got.Entries != nil || got.Fields != nil {
		t.Errorf("Apply of kind %d, operation %d, path of %d: %s, %d, want %d", kind, x.u.Op, len(x.u.Path), told(got), int(e), int(want))
	}
}
