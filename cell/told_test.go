package cell_test

import (
	"strings"
	"testing"

	"murmuration/api"
	"murmuration/cell"
	"murmuration/kinds"
)

// P9.3: Tell, Dead, Right, Same

func tells(t *testing.T, what string, c api.Cell, want api.Value) {
	t.Helper()
	if got := cell.Tell(c); !kinds.Same(got, want) {
		t.Errorf("%s: %v, want %v", what, got, want)
	}
}

func TestTell(t *testing.T) {
	tells(t, "an object", of(1, "1:2", entry("1.1", "a"), entry("1.2", "b")), api.Value{Kind: 1, L: []string{"a", "b"}})
	tells(t, "a counter", of(2, "1:1 2:1", entry("1.1", 5), entry("2.1", -2)), api.Value{Kind: 2, N: 3})
	tells(t, "a flag", of(3, "1:1", entry("1.1")), api.Value{Kind: 3, B: true})
	tells(t, "a flag that is not", of(3, "1:1"), api.Value{Kind: 3})
	tells(t, "a set", of(4, "1:2", field(0, "x", entry("1.1")), field(0, "y", entry("1.2"))), api.Value{Kind: 4, L: []string{"x", "y"}})
	tells(t, "a register", of(5, "1:1 2:1", entry("1.1", "a", at(7)), entry("2.1", "b", at(3))), api.Value{Kind: 5, B: true, S: "a"})
	tells(t, "a map", of(6, "1:1", field(2, "c", entry("1.1", 5))), api.Value{Kind: 6, Fields: []api.Named{{Name: "c", Value: api.Value{Kind: 2, N: 5}}}})
	tells(t, "one that is not its Norm", of(1, "", entry("2.1", "b"), entry("1.1", "a"), entry("1.1"), entry("3.0", "c")), api.Value{Kind: 1, L: []string{"a", "b"}})
	for kind := range 7 {
		tells(t, "of nothing", cell.New(kind), api.Value{Kind: kind})
	}
	for _, kind := range otherKinds {
		tells(t, "of another kind", of(kind, "1:2", entry("1.1", "a", 5), field(2, "c", entry("1.2"))), api.Value{Kind: kind})
	}
}

func TestDead(t *testing.T) {
	for _, kind := range append([]int{1, 2, 3, 4, 5, 6}, otherKinds...) {
		for _, c := range []api.Cell{
			of(kind, ""), of(kind, "1:1"), of(kind, "1:0", entry("1.0", "a")), of(kind, "1:1", field(0, "x")),
			of(kind, "1:1", field(0, "x", field(6, "y", entry("1.0")))), {Kind: kind, Store: deep(9, entry("1.1"))},
		} {
			if !cell.Dead(c) {
				t.Errorf("Dead(%s): false", told(c))
			}
		}
		for _, c := range []api.Cell{
			of(kind, "", entry("1.1")), of(kind, "1:1", entry("1.1")), of(kind, "1:1", field(0, "x", entry("1.1"))),
			of(kind, "1:1", entry("1.0"), field(0, "x"), field(9, "", field(-1, "", entry("1.1")))), {Kind: kind, Store: deep(8, entry("1.1"))},
		} {
			if cell.Dead(c) {
				t.Errorf("Dead(%s): true", told(c))
			}
		}
	}
}

// deep is what stands within so many fields.
func deep(n int, parts ...any) api.Store {
	s := holding(parts...)
	for range n {
		s = api.Store{Fields: []api.Field{{Kind: 6, Name: "d", Store: s}}}
	}
	return s
}

// rightCells are right in each kind.
func rightCells(kind int) []api.Cell {
	return []api.Cell{
		of(kind, ""), of(kind, "1:1"), of(kind, "0:1 most:most"), of(kind, "1:1", entry("1.1")), of(kind, "1:5", entry("1.1"), entry("1.5")),
		of(kind, "0:most 1:2 5:3", entry("0.most", "a", 5, at(9)), entry("5.3", -7)), of(kind, "1:1", field(0, "x", entry("1.1"))),
		of(kind, "1:2 2:1 3:1", entry("1.2", "a"), entry("2.1", "b"), field(-1, "z", entry("1.1")), field(0, "", entry("1.1")), field(0, "x", entry("1.1"), field(6, "y", entry("3.1")))),
		{Kind: kind, Clock: seen("1:1"), Store: deep(8, entry("1.1"))},
		{Kind: kind, Clock: api.Clock{}, Store: api.Store{Entries: []api.Entry{}, Fields: []api.Field{}}},
	}
}

// unright are right but for one thing each.
func unright() map[string]api.Cell {
	return map[string]api.Cell{
		"a Clock out of order":                  of(4, "5:1 1:1"),
		"a Clock with an actor twice":           of(4, "1:1 1:2"),
		"a Clock with a dot twice":              of(4, "1:1 1:1"),
		"a Clock with N 0":                      of(4, "1:0"),
		"a Clock with N 0 behind another":       of(4, "1:1 2:0"),
		"entries out of order":                  of(4, "1:1 2:1", entry("2.1"), entry("1.1")),
		"an actor's entries out of order":       of(4, "1:2", entry("1.2"), entry("1.1")),
		"an entry twice":                        of(4, "1:1", entry("1.1"), entry("1.1")),
		"a dot twice":                           of(4, "1:1", entry("1.1"), entry("1.1", "a")),
		"an entry of N 0":                       of(4, "1:1", entry("1.0")),
		"an empty field":                        of(4, "1:1", field(0, "x")),
		"a field that has an empty one":         of(4, "1:1", field(0, "x", entry("1.1"), field(2, "y"))),
		"a field of N 0":                        of(4, "1:1", field(0, "x", entry("1.0"))),
		"fields out of order":                   of(4, "1:1", field(0, "y", entry("1.1")), field(0, "x", entry("1.1"))),
		"fields of Kinds out of order":          of(4, "1:1", field(2, "x", entry("1.1")), field(0, "y", entry("1.1"))),
		"fields of one name, out of order":      of(4, "1:1", field(2, "x", entry("1.1")), field(0, "x", entry("1.1"))),
		"a field twice":                         of(4, "1:2", field(0, "x", entry("1.1")), field(0, "x", entry("1.2"))),
		"a field's entries out of order":        of(4, "1:2", field(0, "x", entry("1.2"), entry("1.1"))),
		"inner fields out of order":             of(4, "1:2", field(0, "x", field(0, "b", entry("1.2")), field(0, "a", entry("1.1")))),
		"9 fields deep":                         {Kind: 4, Clock: seen("1:1"), Store: deep(9, entry("1.1"))},
		"more than 9 fields deep":               {Kind: 4, Clock: seen("1:1"), Store: deep(5000, entry("1.1"))},
		"an entry too deep beside another":      {Kind: 4, Clock: seen("1:1"), Store: deep(8, entry("1.1"), field(0, "x", entry("1.1")))},
		"an entry that no Clock covers":         of(4, "", entry("1.1")),
		"an entry ahead of the Clock":           of(4, "1:1", entry("1.2")),
		"an entry ahead of the Clock by far":    of(4, "1:1", entry("1.most")),
		"an entry of another actor":             of(4, "1:9", entry("2.1")),
		"an entry of actor 0":                   of(4, "1:9", entry("0.1")),
		"one of several entries ahead":          of(4, "1:1 2:1", entry("1.1"), entry("2.1"), entry("2.2")),
		"the first of several entries":          of(4, "2:1", entry("1.1"), entry("2.1")),
		"a field's entry ahead of the Clock":    of(4, "1:1", entry("1.1"), field(0, "x", entry("1.2"))),
		"an inner field's entry ahead":          of(4, "1:1", field(0, "x", entry("1.1"), field(6, "y", entry("3.1")))),
		"an entry ahead, 8 fields deep":         {Kind: 4, Clock: seen("1:1"), Store: deep(8, entry("1.2"))},
		"an entry ahead, in a Clock of N 0":     of(4, "1:0", entry("1.1")),
		"a Kind below":                          of(0, "1:1", entry("1.1")),
		"a Kind above":                          of(7, "1:1", entry("1.1")),
		"a Kind far below":                      of(-1, ""),
		"a Kind that is another one in 32 bits": of(1<<32+4, "1:1", entry("1.1")),
	}
}

func TestRight(t *testing.T) {
	for kind := api.KindObject; kind <= api.KindMap; kind++ {
		for _, c := range rightCells(kind) {
			if !cell.Right(c) {
				t.Errorf("Right(%s): false", told(c))
			}
		}
	}
	for _, kind := range otherKinds {
		for _, c := range rightCells(kind) {
			if cell.Right(c) {
				t.Errorf("Right(%s): true", told(c))
			}
		}
	}
	for what, c := range unright() {
		if cell.Right(c) {
			t.Errorf("Right of %s: true", what)
		}
	}
}

func TestSame(t *testing.T) {
	c := of(4, "1:2 5:3", entry("1.1", "a", 5, at(7)), field(0, "x", entry("5.3"), field(6, "y", entry("1.2"))))
	for what, o := range map[string]api.Cell{
		"itself":          of(4, "1:2 5:3", entry("1.1", "a", 5, at(7)), field(0, "x", entry("5.3"), field(6, "y", entry("1.2")))),
		"another Clock":   of(4, "5:3 1:2 1:1 9:0", entry("1.1", "a", 5, at(7)), field(0, "x", entry("5.3"), field(6, "y", entry("1.2")))),
		"doubled entries": of(4, "1:2 5:3", entry("1.1", "a", 5, at(6)), entry("2.0"), entry("1.1", "a", 5, at(7)), field(0, "x", entry("5.3"), field(6, "y", entry("1.2")))),
		"a parted field":  of(4, "1:2 5:3", entry("1.1", "a", 5, at(7)), field(0, "x", field(6, "y", entry("1.2"))), field(0, "e"), field(0, "x", entry("5.3"))),
	} {
		if !cell.Same(c, o) || !cell.Same(o, c) || !cell.Same(o, o) {
			t.Errorf("Same, %s: false", what)
		}
	}
	for what, o := range map[string]api.Cell{
		"Kind":                    of(5, "1:2 5:3", entry("1.1", "a", 5, at(7)), field(0, "x", entry("5.3"), field(6, "y", entry("1.2")))),
		"Clock, an N":             of(4, "1:2 5:4", entry("1.1", "a", 5, at(7)), field(0, "x", entry("5.3"), field(6, "y", entry("1.2")))),
		"Clock, a dot more":       of(4, "1:2 5:3 6:1", entry("1.1", "a", 5, at(7)), field(0, "x", entry("5.3"), field(6, "y", entry("1.2")))),
		"Clock, a dot less":       of(4, "1:2", entry("1.1", "a", 5, at(7)), field(0, "x", entry("5.3"), field(6, "y", entry("1.2")))),
		"entry's text":            of(4, "1:2 5:3", entry("1.1", "b", 5, at(7)), field(0, "x", entry("5.3"), field(6, "y", entry("1.2")))),
		"entry's number":          of(4, "1:2 5:3", entry("1.1", "a", 6, at(7)), field(0, "x", entry("5.3"), field(6, "y", entry("1.2")))),
		"entry's time":            of(4, "1:2 5:3", entry("1.1", "a", 5, at(8)), field(0, "x", entry("5.3"), field(6, "y", entry("1.2")))),
		"entry's dot":             of(4, "1:2 5:3", entry("1.2", "a", 5, at(7)), field(0, "x", entry("5.3"), field(6, "y", entry("1.2")))),
		"entries, one more":       of(4, "1:2 5:3", entry("1.1", "a", 5, at(7)), entry("1.2"), field(0, "x", entry("5.3"), field(6, "y", entry("1.2")))),
		"fields, none":            of(4, "1:2 5:3", entry("1.1", "a", 5, at(7))),
		"field's name":            of(4, "1:2 5:3", entry("1.1", "a", 5, at(7)), field(0, "z", entry("5.3"), field(6, "y", entry("1.2")))),
		"field's Kind":            of(4, "1:2 5:3", entry("1.1", "a", 5, at(7)), field(1, "x", entry("5.3"), field(6, "y", entry("1.2")))),
		"inner field":             of(4, "1:2 5:3", entry("1.1", "a", 5, at(7)), field(0, "x", entry("5.3"), field(6, "y", entry("1.1")))),
		"cell, with nothing else": of(4, ""),
	} {
		if cell.Same(c, o) || cell.Same(o, c) {
			t.Errorf("Same, another %s: true", what)
		}
	}
	for _, kind := range otherKinds {
		if !cell.Same(of(kind, "1:1", entry("1.1")), of(kind, "1:1 1:0", entry("1.1"), field(0, "e"))) || cell.Same(cell.New(kind), cell.New(4)) {
			t.Errorf("Same, of the kind %d", kind)
		}
	}
}

func TestLongThings(t *testing.T) {
	c := of(1, "1:1", entry("1.1", strings.Repeat("x", 1<<20)))
	for i := range uint64(3000) {
		c.Clock = append(c.Clock, api.Dot{Actor: i + 2, N: 1})
		c.Store.Entries = append(c.Store.Entries, api.Entry{Dot: api.Dot{Actor: i + 2, N: 1}})
	}
	if !cell.Right(c) || cell.Dead(c) || len(cell.Tell(c).L) != 3001 || !cell.Same(cell.Join(c, c), c) {
		t.Error("a long cell is not told right")
	}
	back, e := cell.Read(cell.Bytes(c))
	if e != api.OK || told(back) != told(c) {
		t.Errorf("a long cell is not read: %d", int(e))
	}
}
