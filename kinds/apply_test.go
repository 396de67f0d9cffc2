package kinds_test

import (
	"math"
	"strings"
	"testing"

	"murmuration/api"
	"murmuration/kinds"
	"murmuration/store"
)

func value(kind int, l ...string) api.Value { return api.Value{Kind: kind, L: l} }

// The chapter's examples

func TestExamples(t *testing.T) {
	s := applied(t, api.KindCounter, of(), by(1, 1, add(5)), by(2, 1, add(-2)))
	is(t, "a counter", kinds.Tell(api.KindCounter, s), api.Value{Kind: api.KindCounter, N: 3})

	s = applied(t, api.KindSet, of(), by(1, 1, insert("x")), by(2, 1, insert("x"), 1, 1), by(3, 1, remove("x"), 1, 1))
	is(t, "a set", kinds.Tell(api.KindSet, s), value(api.KindSet, "x"))

	s = applied(t, api.KindObject, of(), by(1, 1, put("a")), by(2, 1, put("b")), by(1, 2, put("c"), 1, 1))
	is(t, "an object", kinds.Tell(api.KindObject, s), value(api.KindObject, "c", "b"))

	r := field(api.KindRegister, "r")
	s = applied(t, api.KindMap, of(), by(1, 1, in(assign("u", 0), r)))
	is(t, "a map", kinds.Tell(api.KindMap, s), api.Value{Kind: api.KindMap, Fields: []api.Named{{Name: "r", Value: api.Value{Kind: api.KindRegister, B: true, S: "u"}}}})
	s = applied(t, api.KindMap, s, by(2, 1, dropping(api.KindRegister, "r"), 1, 1))
	is(t, "a map behind a Drop", kinds.Tell(api.KindMap, s), api.Value{Kind: api.KindMap})

	if e := kinds.Check(api.KindSet, add(1)); e != api.ErrKind {
		t.Errorf("Add to a set: %d", int(e))
	}
	refused(t, api.KindSet, of(), by(1, 1, add(1)), api.ErrKind)
}

// P8.2

type application struct {
	what string
	kind int
	s    api.Store
	x    event
	want api.Store
}

func holds(t *testing.T, l ...application) {
	t.Helper()
	for _, a := range l {
		is(t, a.what, applied(t, a.kind, a.s, a.x), a.want)
		// The same in a map, beside others that stay, by a path of one and of 7.
		if a.kind == api.KindObject || a.x.u.Op == api.OpDelete {
			continue
		}
		beside := []any{mark(1, 1), field(0, "p", mark(1, 1)), field(6, "q", mark(1, 1))}
		x := a.x
		x.u = in(x.u, field(a.kind, "p"))
		got := applied(t, api.KindMap, of(append(beside, api.Field{Kind: a.kind, Name: "p", Store: a.s})...), x)
		is(t, a.what+", in a map", got, store.Norm(of(append(beside, api.Field{Kind: a.kind, Name: "p", Store: a.want})...)))
		x.u = in(x.u, down(7, a.kind)...)
		got = applied(t, api.KindMap, deep(7, a.kind, parts(a.s)...), x)
		is(t, a.what+", within 7 fields", got, store.Norm(deep(7, a.kind, parts(a.want)...)))
	}
}

func parts(s api.Store) []any {
	var l []any
	for _, e := range s.Entries {
		l = append(l, e)
	}
	for _, f := range s.Fields {
		l = append(l, f)
	}
	return l
}

func TestPut(t *testing.T) {
	two := of(text(1, 1, "a"), text(2, 1, "b"))
	holds(t,
		application{"of nothing", 1, of(), by(1, 1, put("a")), of(text(1, 1, "a"))},
		application{"of an empty text", 1, of(), by(1, 1, put("")), of(mark(1, 1))},
		application{"N, T and Kind do not count", 1, of(), by(1, 1, api.Update{Op: api.OpPut, S: "a", N: 5, T: 6, Kind: 2}), of(text(1, 1, "a"))},
		application{"having seen nothing", 1, two, by(1, 2, put("c")), of(text(1, 1, "a"), text(1, 2, "c"), text(2, 1, "b"))},
		application{"having seen one", 1, two, by(3, 1, put("c"), 1, 1), of(text(2, 1, "b"), text(3, 1, "c"))},
		application{"having seen both", 1, two, by(3, 1, put("c"), 1, 1, 2, 1), of(text(3, 1, "c"))},
		application{"having seen others", 1, two, by(3, 1, put("c"), 4, 9, 3, 9), of(text(1, 1, "a"), text(2, 1, "b"), text(3, 1, "c"))},
		application{"having seen more", 1, two, by(3, 1, put("c"), 1, 9), of(text(2, 1, "b"), text(3, 1, "c"))},
		application{"having seen its own dot", 1, two, by(3, 1, put("c"), 3, 1, 1, 1), of(text(2, 1, "b"), text(3, 1, "c"))},
		application{"by a clock that is not right", 1, two, by(3, 1, put("c"), 2, 0, 2, 3, 1, 0, 2, 1), of(text(1, 1, "a"), text(3, 1, "c"))},
		application{"of a dot that is there", 1, two, by(1, 1, put("c")), of(text(1, 1, "c"), text(2, 1, "b"))},
		application{"of a dot that is there with a greater text", 1, of(text(1, 1, "z")), by(1, 1, put("c")), of(text(1, 1, "z"))},
		application{"of a dot that is there and was seen", 1, of(text(1, 1, "z")), by(1, 1, put("c"), 1, 1), of(text(1, 1, "c"))},
		application{"what was seen goes from fields, too", 1, of(text(1, 1, "a"), field(4, "f", mark(1, 1), mark(2, 1))), by(3, 1, put("c"), 1, 1), of(text(3, 1, "c"), field(4, "f", mark(2, 1)))},
		application{"of the greatest dot", 1, two, by(most, most, put("c"), 1, most), of(text(2, 1, "b"), text(most, most, "c"))},
		application{"of actor 0", 1, two, by(0, 1, put("c")), of(text(0, 1, "c"), text(1, 1, "a"), text(2, 1, "b"))},
	)
	long := strings.Repeat("x", 20000)
	is(t, "of a long text", applied(t, 1, two, by(1, 1, put(long), 1, 1, 2, 1)), of(text(1, 1, long)))
}

func TestDelete(t *testing.T) {
	full := of(text(1, 1, "a"), text(2, 1, "b"), field(0, "x", mark(1, 2)), field(2, "c", number(1, 1, 4), number(3, 1, 5)), field(6, "m", field(6, "m", mark(2, 2))))
	for kind := 1; kind <= 6; kind++ {
		holds(t,
			application{"having seen nothing", kind, full, by(9, 1, op(api.OpDelete)), full},
			application{"having seen some", kind, full, by(9, 1, op(api.OpDelete), 1, 1, 2, 1), of(field(0, "x", mark(1, 2)), field(2, "c", number(3, 1, 5)), field(6, "m", field(6, "m", mark(2, 2))))},
			application{"having seen an actor", kind, full, by(9, 1, op(api.OpDelete), 1, 2), of(text(2, 1, "b"), field(2, "c", number(3, 1, 5)), field(6, "m", field(6, "m", mark(2, 2))))},
			application{"having seen all", kind, full, by(9, 1, op(api.OpDelete), 1, 2, 2, 2, 3, 1), of()},
			application{"of nothing", kind, of(), by(9, 1, op(api.OpDelete), 1, 2), of()},
			application{"N, S, T do not count", kind, full, by(9, 1, api.Update{Op: api.OpDelete, S: "x", N: 1, T: 1, Kind: 9}), full},
		)
	}
}

func TestAdd(t *testing.T) {
	two := of(number(1, 1, 5), number(2, 1, -2))
	holds(t,
		application{"of nothing", 2, of(), by(1, 1, add(5)), of(number(1, 1, 5))},
		application{"0 is an entry, too", 2, of(), by(1, 1, add(0)), of(mark(1, 1))},
		application{"S, T and Kind do not count", 2, of(), by(1, 1, api.Update{Op: api.OpAdd, S: "a", N: 5, T: 6, Kind: 4}), of(number(1, 1, 5))},
		application{"having seen nothing", 2, two, by(1, 2, add(1)), of(number(1, 1, 5), number(1, 2, 1), number(2, 1, -2))},
		application{"what was seen stays", 2, two, by(3, 1, add(1), 1, 9, 2, 9, 3, 9), of(number(1, 1, 5), number(2, 1, -2), number(3, 1, 1))},
		application{"of a dot that is there", 2, two, by(1, 1, add(7), 1, 1), of(number(1, 1, 7), number(2, 1, -2))},
		application{"of a dot that is there with a greater number", 2, two, by(1, 1, add(4), 1, 1), two},
		application{"of the ends", 2, of(number(1, 1, math.MinInt64)), by(1, 2, add(math.MaxInt64)), of(number(1, 1, math.MinInt64), number(1, 2, math.MaxInt64))},
	)
}

func TestEnableAndDisable(t *testing.T) {
	two := of(mark(1, 1), mark(2, 1))
	holds(t,
		application{"Enable of nothing", 3, of(), by(1, 1, op(api.OpEnable)), of(mark(1, 1))},
		application{"N, S, T and Kind do not count", 3, of(), by(1, 1, api.Update{Op: api.OpEnable, S: "a", N: 5, T: 6, Kind: 4}), of(mark(1, 1))},
		application{"Enable having seen nothing", 3, two, by(3, 1, op(api.OpEnable)), of(mark(1, 1), mark(2, 1), mark(3, 1))},
		application{"Enable having seen one", 3, two, by(3, 1, op(api.OpEnable), 1, 1), of(mark(2, 1), mark(3, 1))},
		application{"Enable having seen all and itself", 3, two, by(3, 1, op(api.OpEnable), 1, 1, 2, 1, 3, 1), of(mark(3, 1))},
		application{"Enable of a dot that is there", 3, two, by(2, 1, op(api.OpEnable), 1, 1), of(mark(2, 1))},
		application{"Disable of nothing", 3, of(), by(1, 1, op(api.OpDisable), 1, 1), of()},
		application{"Disable having seen nothing", 3, two, by(3, 1, op(api.OpDisable)), two},
		application{"Disable having seen one", 3, two, by(3, 1, op(api.OpDisable), 1, 1), of(mark(2, 1))},
		application{"Disable having seen both", 3, two, by(3, 1, op(api.OpDisable), 2, 1, 1, 5), of()},
		application{"Disable by a dot that is there", 3, two, by(1, 1, op(api.OpDisable)), two},
		application{"Disable takes from fields, too", 3, of(mark(1, 1), field(0, "x", mark(1, 1))), by(1, 2, op(api.OpDisable), 1, 1), of()},
	)
}

func TestInsertAndRemove(t *testing.T) {
	xy := of(field(0, "x", mark(1, 1), mark(2, 1)), field(0, "y", mark(1, 2)))
	holds(t,
		application{"Insert of nothing", 4, of(), by(1, 1, insert("x")), of(field(0, "x", mark(1, 1)))},
		application{"Insert of an empty text", 4, of(), by(1, 1, insert("")), of(field(0, "", mark(1, 1)))},
		application{"N, T and Kind do not count", 4, of(), by(1, 1, api.Update{Op: api.OpInsert, S: "a", N: 5, T: 6, Kind: 4}), of(field(0, "a", mark(1, 1)))},
		application{"Insert having seen nothing", 4, xy, by(3, 1, insert("x")), of(field(0, "x", mark(1, 1), mark(2, 1), mark(3, 1)), field(0, "y", mark(1, 2)))},
		application{"Insert of another one", 4, xy, by(3, 1, insert("z"), 1, 9, 2, 9), of(field(0, "x", mark(1, 1), mark(2, 1)), field(0, "y", mark(1, 2)), field(0, "z", mark(3, 1)))},
		application{"Insert having seen all", 4, xy, by(3, 1, insert("x"), 1, 9, 2, 9, 3, 9), of(field(0, "x", mark(3, 1)), field(0, "y", mark(1, 2)))},
		application{"Insert having seen one", 4, xy, by(3, 1, insert("x"), 1, 9), of(field(0, "x", mark(2, 1), mark(3, 1)), field(0, "y", mark(1, 2)))},
		application{"Insert of a dot that another one has", 4, xy, by(1, 2, insert("x")), of(field(0, "x", mark(1, 1), mark(1, 2), mark(2, 1)), field(0, "y", mark(1, 2)))},
		application{"Remove of nothing", 4, of(), by(1, 1, remove("x"), 1, 1), of()},
		application{"Remove of one that is not there", 4, xy, by(3, 1, remove("z"), 1, 9, 2, 9), xy},
		application{"Remove having seen nothing", 4, xy, by(3, 1, remove("x")), xy},
		application{"Remove having seen one", 4, xy, by(3, 1, remove("x"), 1, 9), of(field(0, "x", mark(2, 1)), field(0, "y", mark(1, 2)))},
		application{"Remove having seen all", 4, xy, by(3, 1, remove("x"), 1, 9, 2, 9), of(field(0, "y", mark(1, 2)))},
		application{"Remove's Kind does not count", 4, xy, by(3, 1, api.Update{Op: api.OpRemove, S: "x", Kind: 4, N: 1, T: 1}, 1, 9, 2, 9), of(field(0, "y", mark(1, 2)))},
		application{"what else there is stays", 4, of(mark(1, 1), field(-1, "x", mark(1, 1)), field(0, "x", mark(1, 1)), field(2, "x", mark(1, 1))), by(3, 1, remove("x"), 1, 1), of(mark(1, 1), field(-1, "x", mark(1, 1)), field(2, "x", mark(1, 1)))},
	)
	inner := of(field(0, "x", mark(1, 1), field(5, "in", mark(1, 1), mark(2, 1))))
	is(t, "Remove takes from an element's fields, too", applied(t, 4, inner, by(3, 1, remove("x"), 1, 1)), of(field(0, "x", field(5, "in", mark(2, 1)))))
}

func TestAssign(t *testing.T) {
	two := of(timed(1, 1, "a", 7), timed(2, 1, "b", 3))
	holds(t,
		application{"of nothing", 5, of(), by(1, 1, assign("a", 7)), of(timed(1, 1, "a", 7))},
		application{"of an empty text at no time", 5, of(), by(1, 1, assign("", 0)), of(mark(1, 1))},
		application{"N and Kind do not count", 5, of(), by(1, 1, api.Update{Op: api.OpAssign, S: "a", N: 5, T: most, Kind: 4}), of(timed(1, 1, "a", most))},
		application{"having seen nothing", 5, two, by(3, 1, assign("c", 0)), of(timed(1, 1, "a", 7), timed(2, 1, "b", 3), text(3, 1, "c"))},
		application{"having seen one", 5, two, by(3, 1, assign("c", 1), 1, 1), of(timed(2, 1, "b", 3), timed(3, 1, "c", 1))},
		application{"having seen all and itself", 5, two, by(3, 1, assign("c", 1), 1, 1, 2, 1, 3, 1), of(timed(3, 1, "c", 1))},
		application{"of a dot that is there", 5, two, by(1, 1, assign("a", 8)), of(timed(1, 1, "a", 8), timed(2, 1, "b", 3))},
		application{"of a dot that is there, earlier", 5, two, by(1, 1, assign("a", 6)), two},
	)
}

func TestDrop(t *testing.T) {
	full := of(
		mark(1, 1),
		field(0, "x", mark(1, 1)),
		field(2, "x", number(1, 1, 4), number(2, 1, 5)),
		field(4, "s", field(0, "u", mark(1, 2)), field(0, "v", mark(2, 2))),
		field(6, "x", field(2, "x", number(1, 1, 4))),
	)
	without := func(i int, instead ...any) api.Store {
		l := parts(full)
		return of(append(append(append([]any{}, l[:i]...), instead...), l[i+1:]...)...)
	}
	holds(t,
		application{"of nothing", 6, of(), by(9, 1, dropping(2, "x"), 1, 9), of()},
		application{"having seen nothing", 6, full, by(9, 1, dropping(2, "x")), full},
		application{"of a field that is not there", 6, full, by(9, 1, dropping(3, "x"), 1, 9, 2, 9), full},
		application{"of a name that is not there", 6, full, by(9, 1, dropping(2, ""), 1, 9, 2, 9), full},
		application{"of a counter, all seen", 6, full, by(9, 1, dropping(2, "x"), 1, 9, 2, 9), without(2)},
		application{"of a counter, one seen", 6, full, by(9, 1, dropping(2, "x"), 1, 9), without(2, field(2, "x", number(2, 1, 5)))},
		application{"of a set, one seen", 6, full, by(9, 1, dropping(4, "s"), 1, 9), without(3, field(4, "s", field(0, "v", mark(2, 2))))},
		application{"of a set, all seen", 6, full, by(9, 1, dropping(4, "s"), 1, 2, 2, 2), without(3)},
		application{"of a map", 6, full, by(9, 1, dropping(6, "x"), 1, 1), without(4)},
		application{"N and T do not count", 6, full, by(9, 1, api.Update{Op: api.OpDrop, Kind: 2, S: "x", N: 1, T: 1}, 1, 9, 2, 9), without(2)},
	)
}

func TestWhatStandsWithin8Fields(t *testing.T) {
	s := applied(t, 6, of(), by(1, 1, in(insert("x"), down(7, 4)...)), by(1, 2, in(insert("y"), down(7, 4)...)))
	is(t, "Insert by a path of 7", s, deep(7, 4, field(0, "x", mark(1, 1)), field(0, "y", mark(1, 2))))
	s = applied(t, 6, s, by(1, 3, in(remove("x"), down(7, 4)...), 1, 2))
	is(t, "Remove by a path of 7", s, deep(7, 4, field(0, "y", mark(1, 2))))
	s = applied(t, 6, deep(7, 6, field(2, "c", number(1, 1, 5)), field(3, "c", mark(1, 1))), by(1, 2, in(dropping(2, "c"), down(7, 6)...), 1, 1))
	is(t, "Drop by a path of 7", s, deep(7, 6, field(3, "c", mark(1, 1))))
	s = applied(t, 6, deep(9, 6, mark(1, 1)), by(1, 2, in(op(api.OpEnable), down(1, 3)...)))
	is(t, "Apply where what is too deep is left out", s, of(field(3, "d", mark(1, 2))))
}

func TestOtherPartsStay(t *testing.T) {
	m := of(mark(1, 1), field(2, "c", number(1, 1, 1)), field(6, "a", field(2, "c", number(1, 1, 2))), field(6, "b", field(2, "c", number(1, 1, 3))))
	s := applied(t, 6, m, by(1, 2, in(dropping(2, "c"), field(6, "a")), 1, 1))
	is(t, "a Drop in a map", s, of(mark(1, 1), field(2, "c", number(1, 1, 1)), field(6, "b", field(2, "c", number(1, 1, 3)))))
	s = applied(t, 6, m, by(1, 2, in(add(4), field(6, "b"), field(2, "c")), 1, 1))
	is(t, "an Add in a map", s, of(mark(1, 1), field(2, "c", number(1, 1, 1)), field(6, "a", field(2, "c", number(1, 1, 2))), field(6, "b", field(2, "c", number(1, 1, 3), number(1, 2, 4)))))
	s = applied(t, 6, m, by(1, 2, in(op(api.OpEnable), field(6, "0"), field(6, "n"), field(3, "f")), 1, 1))
	is(t, "fields are made", s, of(mark(1, 1), field(2, "c", number(1, 1, 1)), field(6, "0", field(6, "n", field(3, "f", mark(1, 2)))), field(6, "a", field(2, "c", number(1, 1, 2))), field(6, "b", field(2, "c", number(1, 1, 3)))))
	s = applied(t, 6, m, by(1, 2, in(op(api.OpDisable), field(6, "0"), field(6, "n"), field(3, "f")), 1, 1))
	is(t, "fields are not made for nothing", s, m)
}

// Stores that are not their own Norm, with entries and fields out of order, doubled, of no event, empty.

func TestApplyTakesTheNorm(t *testing.T) {
	holds(t,
		application{"Put", 1, of(text(2, 1, "b"), text(1, 1, "a"), text(1, 1, "z"), text(3, 0, "n")), by(1, 2, put("c"), 2, 1), of(text(1, 1, "z"), text(1, 2, "c"))},
		application{"Add", 2, of(number(2, 1, 4), number(1, 1, 2), number(2, 1, 6)), by(1, 2, add(1)), of(number(1, 1, 2), number(1, 2, 1), number(2, 1, 6))},
		application{"Disable", 3, of(mark(2, 1), mark(1, 1), mark(9, 0), field(1, "e")), by(1, 2, op(api.OpDisable)), of(mark(1, 1), mark(2, 1))},
		application{"Insert", 4, of(field(0, "x", mark(2, 1)), field(0, "a", mark(9, 0)), field(0, "x", mark(1, 1))), by(1, 2, insert("x"), 2, 1), of(field(0, "x", mark(1, 1), mark(1, 2)))},
		application{"Remove", 4, of(field(0, "x", mark(2, 1)), field(0, "a", mark(7, 1)), field(0, "x", mark(1, 1))), by(1, 2, remove("x"), 2, 1, 1, 1), of(field(0, "a", mark(7, 1)))},
		application{"Assign", 5, of(timed(1, 1, "b", 1), timed(1, 1, "a", 9)), by(1, 2, assign("c", 3)), of(timed(1, 1, "b", 1), timed(1, 2, "c", 3))},
		application{"Drop", 6, of(field(2, "x", mark(2, 1)), field(0, "a", mark(7, 1)), field(2, "x", mark(1, 1))), by(1, 2, dropping(2, "x"), 1, 1), of(field(0, "a", mark(7, 1)), field(2, "x", mark(2, 1)))},
		application{"Delete", 6, of(field(2, "x", mark(2, 1)), mark(1, 1), field(2, "x", mark(1, 1))), by(1, 2, op(api.OpDelete), 1, 1), of(field(2, "x", mark(2, 1)))},
	)
}
