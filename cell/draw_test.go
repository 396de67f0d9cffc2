package cell_test

import (
	"math/rand"
	"slices"

	"murmuration/api"
	"murmuration/clock"
	"murmuration/store"
)

func pick[T any](draw *rand.Rand, l ...T) T { return l[draw.Intn(len(l))] }

// updates are, of each kind, some that may be for it.
func updates(kind int) []api.Update {
	c, r, f, m, s := field(2, "c"), field(5, "r"), field(3, "f"), field(6, "m"), field(4, "s")
	return append([]api.Update{op(api.OpDelete)}, map[int][]api.Update{
		api.KindObject:   {put("a"), put("b"), put(""), put("b"), put("c")},
		api.KindCounter:  {add(1), add(-2), add(1 << 62), add(0)},
		api.KindFlag:     {op(api.OpEnable), op(api.OpEnable), op(api.OpDisable)},
		api.KindSet:      {insert("x"), insert("y"), insert(""), remove("x"), remove("y")},
		api.KindRegister: {assign("a", 1), assign("b", 2), assign("c", 1), assign("", most)},
		api.KindMap: {
			in(add(5), c), in(add(-1), m, c), in(assign("u", 1), r), in(assign("v", 2), m, m, r), in(op(api.OpEnable), f), in(op(api.OpDisable), f),
			in(insert("x"), m, s), in(remove("x"), m, s), in(insert("x"), s), in(insert("y"), s), dropping(2, "c"), dropping(6, "m"), in(dropping(4, "s"), m), dropping(4, "s"),
		},
	}[kind]...)
}

func drawnDot(draw *rand.Rand) api.Dot {
	return api.Dot{Actor: pick[uint64](draw, 0, 1, 1, 2, 2, most), N: pick[uint64](draw, 0, 1, 1, 2, 3, most)}
}

func drawnClock(draw *rand.Rand) api.Clock {
	var c api.Clock
	for range draw.Intn(5) {
		c = append(c, drawnDot(draw))
	}
	return c
}

func drawnStore(draw *rand.Rand, size int) api.Store {
	var s api.Store
	for range draw.Intn(4) {
		e := api.Entry{Dot: drawnDot(draw), N: pick[int64](draw, 0, 1, -1), S: pick(draw, "", "a", "\xff"), T: pick[uint64](draw, 0, 1, most)}
		s.Entries = append(s.Entries, e)
	}
	for range draw.Intn(size + 1) {
		f := api.Field{Kind: pick(draw, -1, 0, 0, 2, 3, 4, 5, 6, 6), Name: pick(draw, "", "c", "m", "s", "x"), Store: drawnStore(draw, size-1)}
		s.Fields = append(s.Fields, f)
	}
	return s
}

// drawn is a cell of anything, right or not.
func drawn(draw *rand.Rand, size int) api.Cell {
	return api.Cell{Kind: pick(draw, 0, 1, 1, 2, 3, 4, 5, 6, 6, 7), Clock: drawnClock(draw), Store: drawnStore(draw, size)}
}

func drawnRight(draw *rand.Rand, size int) api.Cell {
	s := store.Norm(drawnStore(draw, size))
	return api.Cell{Kind: 1 + draw.Intn(6), Clock: clock.Add(drawnClock(draw), store.Dots(s)...), Store: s}
}

// disordered is a cell whose Norm is that of c.
func disordered(draw *rand.Rand, c api.Cell) api.Cell {
	dots := slices.Clone(c.Clock)
	for _, d := range c.Clock {
		dots = append(dots, api.Dot{Actor: d.Actor, N: pick(draw, 0, d.N, d.N/2)})
	}
	mix(draw, dots)
	return api.Cell{Kind: c.Kind, Clock: dots, Store: disorderedStore(draw, c.Store)}
}

// disorderedStore parts each field in two, beside empty ones.
func disorderedStore(draw *rand.Rand, s api.Store) api.Store {
	var o api.Store
	for _, e := range s.Entries {
		o.Entries = append(o.Entries, e, e, api.Entry{Dot: api.Dot{Actor: e.Dot.Actor}, S: "nothing"})
	}
	for _, f := range s.Fields {
		inner := disorderedStore(draw, f.Store)
		n := draw.Intn(len(inner.Entries) + 1)
		for _, part := range []api.Store{{Entries: inner.Entries[:n]}, {Entries: inner.Entries[n:], Fields: inner.Fields}, {}} {
			o.Fields = append(o.Fields, api.Field{Kind: f.Kind, Name: f.Name, Store: part})
		}
	}
	mix(draw, o.Entries)
	mix(draw, o.Fields)
	return o
}

func mix[T any](draw *rand.Rand, l []T) {
	draw.Shuffle(len(l), func(i, j int) { l[i], l[j] = l[j], l[i] })
}

// scribble is what an owner may do to a cell, up to all that its lists have room for.
func scribble(c api.Cell) {
	scribbleClock(c.Clock)
	scribbleStore(c.Store)
}

func scribbleClock(c api.Clock) {
	c = c[:cap(c)]
	for i := range c {
		c[i] = api.Dot{Actor: 99, N: 99}
	}
}

func scribbleStore(s api.Store) {
	for _, f := range s.Fields {
		scribbleStore(f.Store)
	}
	s.Entries, s.Fields = s.Entries[:cap(s.Entries)], s.Fields[:cap(s.Fields)]
	for i := range s.Entries {
		s.Entries[i] = entry("99.99", "scribbled")
	}
	for i := range s.Fields {
		s.Fields[i] = field(99, "scribbled", entry("99.99"))
	}
}
