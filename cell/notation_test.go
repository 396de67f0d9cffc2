package cell_test

import (
	"fmt"
	"math"
	"strconv"
	"strings"
	"testing"

	"murmuration/api"
	"murmuration/cell"
)

const most = math.MaxUint64

// dot is written as actor.N; "most" is the greatest number.
func dot(s string) api.Dot {
	var numbers [2]uint64
	for i, word := range strings.Split(s, ".") {
		numbers[i] = most
		if word != "most" {
			n, err := strconv.ParseUint(word, 10, 64)
			if err != nil {
				panic(err)
			}
			numbers[i] = n
		}
	}
	return api.Dot{Actor: numbers[0], N: numbers[1]}
}

// seen is a clock as the chapter writes it, actor:N, right or not.
func seen(s string) api.Clock {
	var c api.Clock
	for _, word := range strings.Fields(s) {
		c = append(c, dot(strings.Replace(word, ":", ".", 1)))
	}
	return c
}

func clocks(l ...string) []api.Clock {
	var all []api.Clock
	for _, s := range l {
		all = append(all, seen(s))
	}
	return all
}

// entry is of a dot, with a text, a number and a time, as far as they are there.
func entry(d string, rest ...any) api.Entry {
	e := api.Entry{Dot: dot(d)}
	for _, x := range rest {
		switch v := x.(type) {
		case string:
			e.S = v
		case int:
			e.N = int64(v)
		case uint64:
			e.T = v
		}
	}
	return e
}

// at is a time of an entry.
func at(t uint64) uint64 { return t }

func field(kind int, name string, parts ...any) api.Field {
	return api.Field{Kind: kind, Name: name, Store: holding(parts...)}
}

// holding is a store of entries and fields, just in the order in which they come.
func holding(parts ...any) api.Store {
	var s api.Store
	for _, p := range parts {
		switch v := p.(type) {
		case api.Entry:
			s.Entries = append(s.Entries, v)
		case api.Field:
			s.Fields = append(s.Fields, v)
		}
	}
	return s
}

func of(kind int, clock string, parts ...any) api.Cell {
	return api.Cell{Kind: kind, Clock: seen(clock), Store: holding(parts...)}
}

// told is a cell just as it stands, but that a nil list is an empty one: Kind, [Clock], {Store}.
func told(c api.Cell) string {
	var l []string
	for _, d := range c.Clock {
		l = append(l, fmt.Sprintf("%d:%d", d.Actor, d.N))
	}
	return fmt.Sprintf("%d [%s] %s", c.Kind, strings.Join(l, " "), toldStore(c.Store))
}

// toldStore writes an entry as actor.N with its number, "text" and @time, and a field as its kind and "name".
func toldStore(s api.Store) string {
	var l []string
	for _, e := range s.Entries {
		word := fmt.Sprintf("%d.%d", e.Dot.Actor, e.Dot.N)
		if e.N != 0 {
			word += fmt.Sprintf("%+d", e.N)
		}
		if e.S != "" {
			word += strconv.Quote(e.S)
		}
		if e.T != 0 {
			word += fmt.Sprintf("@%d", e.T)
		}
		l = append(l, word)
	}
	for _, f := range s.Fields {
		l = append(l, fmt.Sprintf("%d%q:%s", f.Kind, f.Name, toldStore(f.Store)))
	}
	return "{" + strings.Join(l, " ") + "}"
}

// is says what cell must be told, as told writes it.
func is(t *testing.T, what string, got api.Cell, want string) {
	t.Helper()
	if g := told(got); g != want {
		t.Errorf("%s: %s, want %s", what, g, want)
	}
}

// Updates.

func op(o int) api.Update        { return api.Update{Op: o} }
func put(s string) api.Update    { return api.Update{Op: api.OpPut, S: s} }
func add(n int64) api.Update     { return api.Update{Op: api.OpAdd, N: n} }
func insert(s string) api.Update { return api.Update{Op: api.OpInsert, S: s} }
func remove(s string) api.Update { return api.Update{Op: api.OpRemove, S: s} }
func assign(s string, t uint64) api.Update {
	return api.Update{Op: api.OpAssign, S: s, T: t}
}
func dropping(kind int, name string) api.Update {
	return api.Update{Op: api.OpDrop, Kind: kind, S: name}
}

func in(u api.Update, path ...api.Field) api.Update {
	u.Path = path
	return u
}

// step is an update, its dot, and what is given as seen: nothing, or some clocks.
type step struct {
	dot  api.Dot
	u    api.Update
	seen []api.Clock
}

func by(d string, u api.Update, saw ...string) step { return step{dot(d), u, clocks(saw...)} }

// done says that the steps may be done, one by one.
func done(t *testing.T, c api.Cell, l ...step) api.Cell {
	t.Helper()
	for _, x := range l {
		next, e := cell.Update(c, x.u, x.dot, x.seen...)
		if e != api.OK {
			t.Fatalf("Update of %s, %v: %d", told(c), x, int(e))
		}
		c = next
	}
	return c
}

// refused says that a step has the error, and nothing else is told.
func refused(t *testing.T, what string, c api.Cell, x step, want api.Errno) {
	t.Helper()
	got, e := cell.Update(c, x.u, x.dot, x.seen...)
	if e != want || got.Kind != 0 || got.Clock != nil || got.Store.Entries != nil || got.Store.Fields != nil {
		t.Errorf("%s: %s, %d, want %d", what, told(got), int(e), int(want))
	}
}
