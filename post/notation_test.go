package post_test

import (
	"crypto/sha256"
	"fmt"
	"math"
	"strings"
	"testing"

	"murmuration/api"
	"murmuration/cell"
	"murmuration/gossip"
)

const (
	most  = math.MaxInt
	least = math.MinInt
)

func is(t *testing.T, what string, got, want any) {
	t.Helper()
	if g, w := fmt.Sprint(got), fmt.Sprint(want); g != w {
		t.Errorf("%s: %.600s, want %.600s", what, g, w)
	}
}

// Cells

func sum(s string) [32]byte { return sha256.Sum256([]byte(s)) }

func keyed(key string, c api.Cell) api.Keyed { return api.Keyed{Key: key, Cell: c} }

// updated is a cell of a kind behind some updates of one actor.
func updated(kind int, l ...api.Update) api.Cell {
	c := cell.New(kind)
	for i, u := range l {
		next, e := cell.Update(c, u, api.Dot{Actor: 1, N: uint64(i + 1)})
		if e != api.OK {
			panic(e)
		}
		c = next
	}
	return c
}

func counter() api.Cell { return updated(api.KindCounter, api.Update{Op: api.OpAdd, N: 5}) }

func object(texts ...string) api.Cell {
	var l []api.Update
	for _, s := range texts {
		l = append(l, api.Update{Op: api.OpPut, S: s})
	}
	return updated(api.KindObject, l...)
}

func bag() api.Cell {
	in := []api.Field{{Kind: api.KindMap, Name: "m"}, {Kind: api.KindSet, Name: ""}}
	return updated(api.KindMap, api.Update{Op: api.OpInsert, S: "x", Path: in}, api.Update{Op: api.OpInsert, S: "y", Path: in})
}

// rightCells are some of each kind.
func rightCells() []api.Cell {
	l := []api.Cell{
		object("a", ""), counter(), bag(),
		updated(api.KindFlag, api.Update{Op: api.OpEnable}),
		updated(api.KindSet, api.Update{Op: api.OpInsert, S: "x"}, api.Update{Op: api.OpRemove, S: "x"}),
		updated(api.KindRegister, api.Update{Op: api.OpAssign, S: "s", T: math.MaxUint64}),
	}
	for kind := api.KindObject; kind <= api.KindMap; kind++ {
		l = append(l, cell.New(kind))
	}
	return l
}

func wrongCells() map[string]api.Cell {
	entry := api.Entry{Dot: api.Dot{Actor: 1, N: 1}}
	clock := api.Clock{entry.Dot}
	store := api.Store{Entries: []api.Entry{entry}}
	return map[string]api.Cell{
		"of no kind":                  {},
		"of kind 7":                   {Kind: 7, Clock: clock, Store: store},
		"of kind -1":                  {Kind: -1},
		"with a dot that wasn't seen": {Kind: 1, Store: store},
		"with a Clock out of order":   {Kind: 1, Clock: api.Clock{{Actor: 2, N: 1}, {Actor: 1, N: 1}}},
		"with an N of 0":              {Kind: 1, Clock: api.Clock{{Actor: 2}}},
		"with an entry twice":         {Kind: 1, Clock: clock, Store: api.Store{Entries: []api.Entry{entry, entry}}},
		"with an empty field":         {Kind: 6, Clock: clock, Store: api.Store{Fields: []api.Field{{Kind: 2, Name: "x"}}}},
	}
}

// Rings

func ring() api.Ring { return gossip.Plan(gossip.Join(gossip.New(1), 2), 1) }

// wrongRings are none's own Norm. What alike names has the bytes of an empty one all the same.
func wrongRings() map[string]api.Ring {
	at := func(node int, v uint64) api.Ring {
		r := ring()
		r.Owners[7] = api.Owner{Node: node, V: v}
		return r
	}
	having := func(l ...api.Member) api.Ring { return api.Ring{Members: l} }
	one, two := api.Member{Node: 1, State: 1, V: 1}, api.Member{Node: 2, State: 2, V: 1}
	return map[string]api.Ring{
		"alike: an empty member":   having(api.Member{}),
		"alike: node 8":            having(api.Member{Node: 8, State: 1, V: 1}),
		"alike: state 4":           having(api.Member{Node: 1, State: 4, V: 1}),
		"alike: an owner 8":        {Owners: [8]api.Owner{{}, {Node: 8}}},
		"nodes that do not rise":   having(two, one),
		"a node twice":             having(one, one),
		"node 0 beside another":    having(api.Member{State: 1, V: 1}, one),
		"the last owner 8":         at(8, 1),
		"the last owner -1":        at(-1, 1),
		"the last owner the least": at(least, 0),
	}
}

// Notes

// shortest are right notes with as little as there may be.
func shortest() []api.Note {
	return []api.Note{
		{Kind: api.NoteAsk},
		{Kind: api.NoteTell},
		{Kind: api.NoteGive, Cells: []api.Keyed{keyed("", cell.New(1))}},
		{Kind: api.NoteTook},
		{Kind: api.NoteRing},
		{Kind: api.NoteSwap},
		{Kind: api.NoteParcel},
	}
}

func fullSwap() api.Swap {
	return api.Swap{
		Step:   4,
		Places: []int{0, 255, 17, 17, -1, most, least},
		Sums:   [][32]byte{sum("a"), {}, sum("b")},
		Keys:   []api.Sum{{Key: "k", Sum: sum("c")}, {}, {Key: "k", Sum: sum("d")}},
		Cells:  []api.Keyed{keyed("k", counter()), keyed("", bag()), keyed("k", object("a", "b"))},
		Want:   []string{"a", "", "a", strings.Repeat("w", 200)},
	}
}

func fullParcel() api.Parcel {
	return api.Parcel{
		Partition: 5,
		Number:    9,
		Back:      true,
		Cells:     []api.Keyed{keyed("x", bag()), keyed("y", counter())},
		Sums:      []api.Sum{{Key: "", Sum: sum("e")}, {Key: "k"}},
	}
}

// fullest are right notes with all that belongs to their kind, by rising kinds.
func fullest() []api.Note {
	one := []api.Keyed{keyed("k", counter())}
	return []api.Note{
		{Kind: api.NoteAsk, Ask: 7, Partition: 3, Key: "k"},
		{Kind: api.NoteTell, Ask: 8, Partition: 7, Key: "kk", Err: api.ErrNone, Cells: one},
		{Kind: api.NoteGive, Ask: 9, Partition: 1, Key: "\x00", Cells: one},
		{Kind: api.NoteTook, Ask: -1, Partition: 2, Key: "k", Err: -3},
		{Kind: api.NoteRing, Ring: ring()},
		{Kind: api.NoteSwap, Partition: 6, Swap: fullSwap()},
		{Kind: api.NoteParcel, Parcel: fullParcel()},
	}
}

func rightNotes() []api.Note { return append(shortest(), fullest()...) }

// shown is a note just as it stands, but that a nil list is an empty one.
func shown(n api.Note) string {
	var b strings.Builder
	fmt.Fprintf(&b, "kind %d ask %d partition %d key %q err %d cells ", n.Kind, n.Ask, n.Partition, n.Key, int(n.Err))
	showCells(&b, n.Cells)
	fmt.Fprintf(&b, " ring %v, swap %d %v %x ", n.Ring, n.Swap.Step, n.Swap.Places, n.Swap.Sums)
	showSums(&b, n.Swap.Keys)
	showCells(&b, n.Swap.Cells)
	fmt.Fprintf(&b, " want %q, parcel %d %d %v ", n.Swap.Want, n.Parcel.Partition, n.Parcel.Number, n.Parcel.Back)
	showCells(&b, n.Parcel.Cells)
	showSums(&b, n.Parcel.Sums)
	return b.String()
}

func showCells(b *strings.Builder, l []api.Keyed) {
	b.WriteString("[")
	for _, k := range l {
		fmt.Fprintf(b, "%q %d %v %v ", k.Key, k.Cell.Kind, k.Cell.Clock, k.Cell.Store)
	}
	b.WriteString("]")
}

func showSums(b *strings.Builder, l []api.Sum) {
	b.WriteString("[")
	for _, k := range l {
		fmt.Fprintf(b, "%q %x ", k.Key, k.Sum)
	}
	b.WriteString("]")
}
