package cell_test

import (
	"math"
	"strings"
	"testing"

	"murmuration/api"
	"murmuration/cell"
)

// otherKinds are those outside 1 to 6.
var otherKinds = []int{math.MinInt, -1, 0, 7, 8, 257, 1<<32 + 1, math.MaxInt}

// The chapter's examples

func TestExamples(t *testing.T) {
	c := done(t, cell.New(api.KindObject), by("1.1", put("a")), by("1.2", put("b")))
	tells(t, "two Puts, nothing seen", c, api.Value{Kind: 1, L: []string{"a", "b"}})
	c = done(t, c, by("1.3", put("c"), "1:2"))
	tells(t, "a Put that has seen both", c, api.Value{Kind: 1, L: []string{"c"}})

	here := done(t, cell.New(api.KindSet), by("1.1", insert("x")))
	there := done(t, cell.New(api.KindSet), by("2.1", insert("x")), by("2.2", remove("x")))
	tells(t, "the Insert that was not seen", cell.Join(here, there), api.Value{Kind: 4, L: []string{"x"}})

	refused(t, "Remove with a context ahead", cell.New(api.KindSet), by("1.1", remove("x"), "9:1"), api.ErrContext)
}

// P9.1

func TestNew(t *testing.T) {
	for kind := api.KindObject; kind <= api.KindMap; kind++ {
		is(t, "New", cell.New(kind), told(api.Cell{Kind: kind}))
	}
	for _, kind := range otherKinds {
		is(t, "New of another kind", cell.New(kind), told(api.Cell{Kind: kind}))
	}
}

// updated is what becomes of a cell by a step.
type updated struct {
	what string
	x    step
	want string
}

func become(t *testing.T, c api.Cell, l ...updated) {
	t.Helper()
	was := told(c)
	for _, r := range l {
		is(t, r.what, done(t, c, r.x), r.want)
		is(t, "what was handed in", c, was)
	}
}

func TestUpdateOfAnObject(t *testing.T) {
	become(t, of(1, "1:1 2:1", entry("1.1", "a"), entry("2.1", "b")),
		updated{"Put without seen has seen nothing", by("1.2", put("c")), `1 [1:2 2:1] {1.1"a" 1.2"c" 2.1"b"}`},
		updated{"Put having seen none", by("1.2", put("c"), ""), `1 [1:2 2:1] {1.1"a" 1.2"c" 2.1"b"}`},
		updated{"Put having seen none, twice", by("1.2", put("c"), "", ""), `1 [1:2 2:1] {1.1"a" 1.2"c" 2.1"b"}`},
		updated{"Put having seen one", by("1.2", put("c"), "1:1"), `1 [1:2 2:1] {1.2"c" 2.1"b"}`},
		updated{"Put having seen the other one", by("1.2", put("c"), "2:1"), `1 [1:2 2:1] {1.1"a" 1.2"c"}`},
		updated{"Put having seen both", by("1.2", put("c"), "1:1 2:1"), `1 [1:2 2:1] {1.2"c"}`},
		updated{"Put having seen both, in two clocks", by("1.2", put("c"), "1:1", "2:1"), `1 [1:2 2:1] {1.2"c"}`},
		updated{"Put having seen both, the other way round", by("1.2", put("c"), "2:1", "", "1:1"), `1 [1:2 2:1] {1.2"c"}`},
		updated{"Put having seen more than the cell", by("1.2", put("c"), "1:1 9:4"), `1 [1:2 2:1 9:4] {1.2"c" 2.1"b"}`},
		updated{"Put having seen more in each clock", by("1.2", put("c"), "9:4 2:3", "8:1 9:2"), `1 [1:2 2:3 8:1 9:4] {1.1"a" 1.2"c"}`},
		updated{"Put having seen its own actor's further ones", by("1.2", put("c"), "1:9"), `1 [1:9 2:1] {1.2"c" 2.1"b"}`},
		updated{"Put having seen its own dot", by("1.2", put("c"), "1:2"), `1 [1:2 2:1] {1.2"c" 2.1"b"}`},
		updated{"Put by clocks that are not right", by("1.2", put("c"), "2:1 1:0 9:0", "9:4 2:0 9:5"), `1 [1:2 2:1 9:5] {1.1"a" 1.2"c"}`},
		updated{"Put by another actor", by("0.3", put("c")), `1 [0:3 1:1 2:1] {0.3"c" 1.1"a" 2.1"b"}`},
		updated{"Put by the greatest dot", by("most.most", put("c"), "1:1 2:1"), `1 [1:1 2:1 18446744073709551615:18446744073709551615] {18446744073709551615.18446744073709551615"c"}`},
		updated{"Put of nothing", by("1.7", put("")), `1 [1:7 2:1] {1.1"a" 1.7 2.1"b"}`},
		updated{"Delete without seen has seen the cell's Clock", by("3.1", op(api.OpDelete)), `1 [1:1 2:1 3:1] {}`},
		updated{"Delete having seen none", by("3.1", op(api.OpDelete), ""), `1 [1:1 2:1 3:1] {1.1"a" 2.1"b"}`},
		updated{"Delete having seen one", by("3.1", op(api.OpDelete), "1:1"), `1 [1:1 2:1 3:1] {2.1"b"}`},
		updated{"Delete having seen both, in two clocks", by("3.1", op(api.OpDelete), "1:1", "2:1"), `1 [1:1 2:1 3:1] {}`},
		updated{"Delete having seen more than the cell", by("3.1", op(api.OpDelete), "2:5 9:1"), `1 [1:1 2:5 3:1 9:1] {1.1"a"}`},
	)
}

func TestUpdateOfACounter(t *testing.T) {
	become(t, of(2, "1:1 2:1", entry("1.1", 5), entry("2.1", -2)),
		updated{"Add without seen", by("3.1", add(4)), `2 [1:1 2:1 3:1] {1.1+5 2.1-2 3.1+4}`},
		updated{"Add having seen none", by("3.1", add(4), ""), `2 [1:1 2:1 3:1] {1.1+5 2.1-2 3.1+4}`},
		updated{"Add having seen all", by("3.1", add(4), "1:1 2:1"), `2 [1:1 2:1 3:1] {1.1+5 2.1-2 3.1+4}`},
		updated{"Add of the same actor", by("1.2", add(4)), `2 [1:2 2:1] {1.1+5 1.2+4 2.1-2}`},
		updated{"Delete without seen", by("3.1", op(api.OpDelete)), `2 [1:1 2:1 3:1] {}`},
		updated{"Delete having seen none", by("3.1", op(api.OpDelete), ""), `2 [1:1 2:1 3:1] {1.1+5 2.1-2}`},
		updated{"Delete having seen one", by("3.1", op(api.OpDelete), "1:1"), `2 [1:1 2:1 3:1] {2.1-2}`},
		updated{"Delete having seen all, in two clocks", by("3.1", op(api.OpDelete), "1:1", "2:1"), `2 [1:1 2:1 3:1] {}`},
	)
}

func TestUpdateOfAFlag(t *testing.T) {
	become(t, of(3, "1:1 2:1", entry("1.1"), entry("2.1")),
		updated{"Enable without seen has seen the Clock", by("3.1", op(api.OpEnable)), `3 [1:1 2:1 3:1] {3.1}`},
		updated{"Enable having seen none", by("3.1", op(api.OpEnable), ""), `3 [1:1 2:1 3:1] {1.1 2.1 3.1}`},
		updated{"Enable having seen one", by("3.1", op(api.OpEnable), "1:1"), `3 [1:1 2:1 3:1] {2.1 3.1}`},
		updated{"Disable without seen has seen the Clock", by("3.1", op(api.OpDisable)), `3 [1:1 2:1 3:1] {}`},
		updated{"Disable having seen none", by("3.1", op(api.OpDisable), ""), `3 [1:1 2:1 3:1] {1.1 2.1}`},
		updated{"Disable having seen one", by("3.1", op(api.OpDisable), "2:1"), `3 [1:1 2:1 3:1] {1.1}`},
		updated{"Disable having seen all, in two clocks", by("3.1", op(api.OpDisable), "2:1", "1:1"), `3 [1:1 2:1 3:1] {}`},
		updated{"Delete without seen", by("3.1", op(api.OpDelete)), `3 [1:1 2:1 3:1] {}`},
		updated{"Delete having seen none", by("3.1", op(api.OpDelete), ""), `3 [1:1 2:1 3:1] {1.1 2.1}`},
	)
}

func TestUpdateOfASet(t *testing.T) {
	become(t, of(4, "1:2 2:1", field(0, "x", entry("1.1"), entry("2.1")), field(0, "y", entry("1.2"))),
		updated{"Insert without seen has seen the Clock", by("3.1", insert("x")), `4 [1:2 2:1 3:1] {0"x":{3.1} 0"y":{1.2}}`},
		updated{"Insert having seen none", by("3.1", insert("x"), ""), `4 [1:2 2:1 3:1] {0"x":{1.1 2.1 3.1} 0"y":{1.2}}`},
		updated{"Insert having seen one", by("3.1", insert("x"), "1:1"), `4 [1:2 2:1 3:1] {0"x":{2.1 3.1} 0"y":{1.2}}`},
		updated{"Insert of another one", by("3.1", insert("z")), `4 [1:2 2:1 3:1] {0"x":{1.1 2.1} 0"y":{1.2} 0"z":{3.1}}`},
		updated{"Remove without seen has seen the Clock", by("3.1", remove("x")), `4 [1:2 2:1 3:1] {0"y":{1.2}}`},
		updated{"Remove having seen none", by("3.1", remove("x"), ""), `4 [1:2 2:1 3:1] {0"x":{1.1 2.1} 0"y":{1.2}}`},
		updated{"Remove having seen one", by("3.1", remove("x"), "1:2"), `4 [1:2 2:1 3:1] {0"x":{2.1} 0"y":{1.2}}`},
		updated{"Remove having seen both, in two clocks", by("3.1", remove("x"), "1:1", "2:1"), `4 [1:2 2:1 3:1] {0"y":{1.2}}`},
		updated{"Remove of one that is not there", by("3.1", remove("z")), `4 [1:2 2:1 3:1] {0"x":{1.1 2.1} 0"y":{1.2}}`},
		updated{"Delete without seen", by("3.1", op(api.OpDelete)), `4 [1:2 2:1 3:1] {}`},
		updated{"Delete having seen one", by("3.1", op(api.OpDelete), "1:2"), `4 [1:2 2:1 3:1] {0"x":{2.1}}`},
	)
}

func TestUpdateOfARegister(t *testing.T) {
	become(t, of(5, "1:1 2:1", entry("1.1", "a", at(7)), entry("2.1", "b", at(3))),
		updated{"Assign without seen has seen the Clock", by("3.1", assign("c", 1)), `5 [1:1 2:1 3:1] {3.1"c"@1}`},
		updated{"Assign having seen none", by("3.1", assign("c", 1), ""), `5 [1:1 2:1 3:1] {1.1"a"@7 2.1"b"@3 3.1"c"@1}`},
		updated{"Assign having seen one", by("3.1", assign("c", 1), "1:1"), `5 [1:1 2:1 3:1] {2.1"b"@3 3.1"c"@1}`},
		updated{"Assign having seen all, in two clocks", by("3.1", assign("c", 1), "2:1", "1:1"), `5 [1:1 2:1 3:1] {3.1"c"@1}`},
		updated{"Delete without seen", by("3.1", op(api.OpDelete)), `5 [1:1 2:1 3:1] {}`},
		updated{"Delete having seen one", by("3.1", op(api.OpDelete), "2:1"), `5 [1:1 2:1 3:1] {1.1"a"@7}`},
	)
}

func TestUpdateOfAMap(t *testing.T) {
	c, m, s := field(2, "c"), field(6, "m"), field(4, "s")
	become(t, of(6, "1:2 2:1", field(2, "c", entry("1.1", 5)), field(6, "m", field(4, "s", field(0, "x", entry("1.2"), entry("2.1"))))),
		updated{"Add without seen", by("3.1", in(add(1), c)), `6 [1:2 2:1 3:1] {2"c":{1.1+5 3.1+1} 6"m":{4"s":{0"x":{1.2 2.1}}}}`},
		updated{"Drop without seen has seen the Clock", by("3.1", dropping(2, "c")), `6 [1:2 2:1 3:1] {6"m":{4"s":{0"x":{1.2 2.1}}}}`},
		updated{"Drop having seen none", by("3.1", dropping(2, "c"), ""), `6 [1:2 2:1 3:1] {2"c":{1.1+5} 6"m":{4"s":{0"x":{1.2 2.1}}}}`},
		updated{"Drop having seen one", by("3.1", dropping(6, "m"), "1:2"), `6 [1:2 2:1 3:1] {2"c":{1.1+5} 6"m":{4"s":{0"x":{2.1}}}}`},
		updated{"Drop having seen all, in two clocks", by("3.1", dropping(6, "m"), "2:1", "1:2"), `6 [1:2 2:1 3:1] {2"c":{1.1+5}}`},
		updated{"Remove in a set without seen", by("3.1", in(remove("x"), m, s)), `6 [1:2 2:1 3:1] {2"c":{1.1+5}}`},
		updated{"Insert in a set without seen", by("3.1", in(insert("x"), m, s)), `6 [1:2 2:1 3:1] {2"c":{1.1+5} 6"m":{4"s":{0"x":{3.1}}}}`},
		updated{"Insert in a set having seen none", by("3.1", in(insert("x"), m, s), ""), `6 [1:2 2:1 3:1] {2"c":{1.1+5} 6"m":{4"s":{0"x":{1.2 2.1 3.1}}}}`},
		updated{"Delete without seen", by("3.1", op(api.OpDelete)), `6 [1:2 2:1 3:1] {}`},
		updated{"Delete having seen one", by("3.1", op(api.OpDelete), "1:2"), `6 [1:2 2:1 3:1] {6"m":{4"s":{0"x":{2.1}}}}`},
	)
}

func TestUpdateOfNothing(t *testing.T) {
	is(t, "Put", done(t, cell.New(1), by("1.1", put("a"))), `1 [1:1] {1.1"a"}`)
	is(t, "Put of one that others saw", done(t, cell.New(1), by("1.1", put("a"), "2:3")), `1 [1:1 2:3] {1.1"a"}`)
	is(t, "Delete", done(t, cell.New(1), by("1.1", op(api.OpDelete))), `1 [1:1] {}`)
	is(t, "Add", done(t, cell.New(2), by("1.1", add(-1))), `2 [1:1] {1.1-1}`)
	is(t, "Disable", done(t, cell.New(3), by("1.1", op(api.OpDisable))), `3 [1:1] {}`)
	is(t, "Remove", done(t, cell.New(4), by("1.1", remove("x"), "", "9:0")), `4 [1:1] {}`)
	is(t, "Assign", done(t, cell.New(5), by("1.1", assign("", 0))), `5 [1:1] {1.1}`)
	is(t, "Drop", done(t, cell.New(6), by("1.1", dropping(4, "x"))), `6 [1:1] {}`)
}

// mayBe has of each kind an update that may be for it, and takes away what it has seen, but of a counter.
var mayBe = map[int]api.Update{
	api.KindObject:   put("a"),
	api.KindCounter:  add(1),
	api.KindFlag:     op(api.OpEnable),
	api.KindSet:      insert("x"),
	api.KindRegister: assign("a", 1),
	api.KindMap:      dropping(2, "x"),
}

func TestContexts(t *testing.T) {
	covered := [][]string{{""}, {"1:2"}, {"1:1"}, {"5:3"}, {"1:2 5:3"}, {"5:1", "1:2", ""}, {"5:3 1:0 1:1"}, {"9:0"}, {"5:3", "9:0 0:0", "6:0"}}
	ahead := [][]string{{"1:3"}, {"9:1"}, {"0:1"}, {"1:2 5:4"}, {"1:most"}, {"1:2", "9:1"}, {"9:1", "1:2"}, {"", "", "5:4"}, {"5:4 5:1"}, {"5:1 5:4"}, {"6:1"}, {"3:1"}}
	for kind, u := range mayBe {
		c := of(kind, "1:2 5:3", entry("1.1"), field(0, "x", entry("5.3")))
		for _, x := range []api.Update{u, op(api.OpDelete)} {
			done(t, c, by("3.1", x))
			for _, saw := range covered {
				done(t, c, by("3.1", x, saw...))
			}
			for _, saw := range ahead {
				if kind == api.KindObject {
					done(t, c, by("3.1", x, saw...))
					continue
				}
				refused(t, "a context ahead: "+strings.Join(saw, ", "), c, by("3.1", x, saw...), api.ErrContext)
			}
		}
	}
	refused(t, "a context ahead of nothing", cell.New(api.KindCounter), by("3.1", add(1), "1:1"), api.ErrContext)
}

func TestWrongDots(t *testing.T) {
	for kind, u := range mayBe {
		c := of(kind, "5:3 1:0 1:2 1:1 most:most")
		for _, x := range []api.Update{u, op(api.OpDelete)} {
			for _, d := range []string{"1.0", "0.0", "7.0", "most.0", "1.1", "1.2", "5.1", "5.3", "most.1", "most.most"} {
				refused(t, "the dot "+d, c, by(d, x), api.ErrArg)
				refused(t, "the dot "+d+" with a context", c, by(d, x, "1:1"), api.ErrArg)
				refused(t, "the dot "+d+" with a context ahead", c, by(d, x, "9:9"), api.ErrArg)
			}
			for _, d := range []string{"1.3", "1.9", "1.most", "5.4", "0.1", "2.1", "7.most"} {
				done(t, c, by(d, x), by("8.1", x))
			}
		}
	}
	is(t, "a dot further on", done(t, of(2, "1:1"), by("1.9", add(1))), `2 [1:9] {1.9+1}`)
	refused(t, "a dot that was left out", of(2, "1:9"), by("1.5", add(1)), api.ErrArg)
	is(t, "a dot that the Store alone has", done(t, of(1, "", entry("1.1", "a")), by("1.1", put("b"))), `1 [1:1] {1.1"b"}`)
}

func TestWhatCheckSays(t *testing.T) {
	long, blob := strings.Repeat("x", api.MaxText+1), strings.Repeat("x", api.MaxBlob+1)
	for _, x := range []struct {
		kind int
		u    api.Update
		want api.Errno
	}{
		{1, add(1), api.ErrKind}, {2, put("a"), api.ErrKind}, {3, insert("a"), api.ErrKind}, {4, op(api.OpEnable), api.ErrKind},
		{5, dropping(2, "a"), api.ErrKind}, {6, assign("a", 1), api.ErrKind}, {6, dropping(1, "a"), api.ErrKind},
		{4, op(0), api.ErrKind}, {4, op(10), api.ErrKind}, {4, op(-1), api.ErrKind},
		{6, in(op(api.OpDelete), field(2, "c")), api.ErrKind}, {2, in(add(1), field(2, "c")), api.ErrKind}, {6, in(add(1), field(3, "c")), api.ErrKind},
		{4, add(1), api.ErrKind}, {4, api.Update{Op: api.OpAdd, S: long}, api.ErrKind},
		{1, put(blob), api.ErrSize}, {4, insert(long), api.ErrSize}, {5, assign(long, 1), api.ErrSize}, {6, in(add(1), field(2, long)), api.ErrSize},
		{6, dropping(2, long), api.ErrSize},
	} {
		c := of(x.kind, "1:1")
		refused(t, "alone", c, by("2.1", x.u), x.want)
		refused(t, "with a dot of N 0", c, by("2.0", x.u), x.want)
		refused(t, "with a dot that is covered", c, by("1.1", x.u), x.want)
		refused(t, "with a context ahead", c, by("2.1", x.u, "9:1"), x.want)
		refused(t, "with all of them", c, by("1.0", x.u, "9:1"), x.want)
	}
	is(t, "the longest text", done(t, cell.New(1), by("1.1", put(blob[1:]))), `1 [1:1] {1.1"`+blob[1:]+`"}`)
	for _, kind := range otherKinds {
		for o := range 11 {
			refused(t, "of another kind", of(kind, "1:1"), by("2.1", op(o)), api.ErrKind)
			refused(t, "of another kind, with all errors", of(kind, "1:1"), by("1.1", op(o), "9:1"), api.ErrKind)
		}
	}
}

func TestUpdateTakesTheNorm(t *testing.T) {
	wrong := of(4, "2:0 5:1 1:1 1:2 5:3",
		entry("9.0"), field(0, "y", entry("5.3"), entry("5.3", 2), entry("5.2")), field(0, "e"), field(0, "x", entry("1.2")), field(0, "x", entry("1.1")), field(0, "n", entry("1.0")))
	is(t, "without seen", done(t, wrong, by("3.1", insert("z"))), `4 [1:2 3:1 5:3] {0"x":{1.1 1.2} 0"y":{5.2 5.3+2} 0"z":{3.1}}`)
	is(t, "with seen", done(t, wrong, by("3.1", remove("y"), "5:2 5:1 9:0", "1:2 1:1")), `4 [1:2 3:1 5:3] {0"x":{1.1 1.2} 0"y":{5.3+2}}`)
	is(t, "Delete", done(t, wrong, by("3.1", op(api.OpDelete))), `4 [1:2 3:1 5:3] {}`)
	refused(t, "a dot that is covered", wrong, by("5.2", insert("z")), api.ErrArg)
	refused(t, "a context ahead", wrong, by("3.1", insert("z"), "2:1"), api.ErrContext)
}

// P9.2

func TestJoin(t *testing.T) {
	for _, x := range []struct {
		what string
		a, b api.Cell
		want string
	}{
		{"nothing", of(2, ""), of(2, ""), `2 [] {}`},
		{"one and nothing", of(2, "1:1", entry("1.1", 5)), of(2, ""), `2 [1:1] {1.1+5}`},
		{"apart", of(2, "1:1", entry("1.1", 5)), of(2, "2:1", entry("2.1", 3)), `2 [1:1 2:1] {1.1+5 2.1+3}`},
		{"both have one", of(2, "1:1 3:2", entry("1.1", 5)), of(2, "1:1 2:4", entry("1.1", 5)), `2 [1:1 2:4 3:2] {1.1+5}`},
		{"one has seen it, and has it no more", of(2, "1:1", entry("1.1", 5)), of(2, "1:1 2:1"), `2 [1:1 2:1] {}`},
		{"one has seen more of its actor", of(1, "1:1", entry("1.1", "a")), of(1, "1:2", entry("1.2", "b")), `1 [1:2] {1.2"b"}`},
		{"one has seen less of its actor", of(1, "1:3", entry("1.3", "c")), of(1, "1:2", entry("1.2", "b")), `1 [1:3] {1.3"c"}`},
		{"of one dot the greater entry", of(1, "1:1", entry("1.1", "a")), of(1, "1:1", entry("1.1", "b")), `1 [1:1] {1.1"b"}`},
		{"an element that was removed", of(4, "1:2", field(0, "x", entry("1.1")), field(0, "y", entry("1.2"))), of(4, "1:1 2:1", field(0, "z", entry("2.1"))), `4 [1:2 2:1] {0"y":{1.2} 0"z":{2.1}}`},
		{"parts of maps", of(6, "1:1", field(6, "m", field(2, "c", entry("1.1", 5)))), of(6, "2:2", field(6, "m", field(2, "c", entry("2.1", 3)), field(3, "f", entry("2.2")))), `6 [1:1 2:2] {6"m":{2"c":{1.1+5 2.1+3} 3"f":{2.2}}}`},
		{"of another kind", of(7, "1:1", entry("1.1")), of(7, "2:1", entry("2.1")), `7 [1:1 2:1] {1.1 2.1}`},
		{"cells that are not right", of(0, "", entry("1.1")), of(0, "1:5"), `0 [1:5] {}`},
		{"cells that are not their Norms", of(2, "2:0 1:2 1:1", entry("1.2", 1), entry("1.1", 4), entry("1.2", 3), field(1, "e")), of(2, "9:1 2:1 2:3", entry("2.0"), entry("9.1", 2), entry("2.3", 1)), `2 [1:2 2:3 9:1] {1.1+4 1.2+3 2.3+1 9.1+2}`},
	} {
		is(t, x.what, cell.Join(x.a, x.b), x.want)
		is(t, x.what+", the other way round", cell.Join(x.b, x.a), x.want)
	}
}

func TestJoinOfUnlikeKinds(t *testing.T) {
	all := []int{math.MinInt, -1, 0, 1, 2, 3, 4, 5, 6, 7, math.MaxInt}
	for i, greater := range all {
		for _, lesser := range all[:i] {
			for _, x := range []struct {
				g, l api.Cell
				want string
			}{
				{of(greater, "1:1", entry("1.1")), of(lesser, "1:2 2:1", entry("2.1")), `[1:1] {1.1}`},
				{of(greater, "2:3", field(0, "x", entry("2.1"))), of(lesser, "2:9"), `[2:3] {0"x":{2.1}}`},
				{of(greater, ""), of(lesser, "1:2 2:1", entry("2.1")), `[] {}`},
				{of(greater, "2:0 3:1 1:1", entry("3.1"), entry("1.1"), entry("3.1", 1), field(4, "e")), of(lesser, "3:9"), `[1:1 3:1] {1.1 3.1+1}`},
			} {
				want := strings.Split(told(api.Cell{Kind: greater}), " ")[0] + " " + x.want
				is(t, "the greater Kind first", cell.Join(x.g, x.l), want)
				is(t, "the greater Kind last", cell.Join(x.l, x.g), want)
			}
		}
	}
}
