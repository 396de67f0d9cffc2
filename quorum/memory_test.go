package quorum_test

import (
	"fmt"
	"slices"
	"testing"

	"murmuration/api"
	"murmuration/cell"
	"murmuration/quorum"
)

// R3

// scribble writes over all that a list could reach.
func scribble[T any](l []T, with T) {
	l = l[:cap(l)]
	for i := range l {
		l[i] = with
	}
}

// scribbleCell is what an owner may do to a cell.
func scribbleCell(c api.Cell) {
	scribble(c.Clock, api.Dot{Actor: 99, N: 99})
	scribbleStore(c.Store)
}

func scribbleStore(s api.Store) {
	for _, f := range s.Fields {
		scribbleStore(f.Store)
	}
	scribble(s.Entries, api.Entry{Dot: api.Dot{Actor: 99, N: 99}, S: "scribbled"})
	scribble(s.Fields, api.Field{Kind: 99, Name: "scribbled"})
}

// deep is a cell of a map with a map in it.
func deep(actor uint64, names ...string) api.Cell {
	c := cell.New(api.KindMap)
	for i, name := range names {
		path := []api.Field{{Kind: api.KindMap, Name: "m"}, {Kind: api.KindSet, Name: name}}
		next, e := cell.Update(c, api.Update{Op: api.OpInsert, S: name, Path: path}, api.Dot{Actor: actor, N: uint64(i + 1)})
		if e != api.OK {
			panic(e)
		}
		c = next
	}
	return c
}

func TestTargetsMayBeChangedBehindTheCall(t *testing.T) {
	mine := make([]api.Target, 3, 8)
	copy(mine, three)
	was := slices.Clone(mine[:8])
	x, r := quorum.New(mine, 2, 1), quorum.NewRead(mine, 2, 1)
	is(t, "what was handed in", mine[:8], was)
	scribble(mine, api.Target{Node: 9, For: 9})
	for what, c := range map[string]counter{"tally": x, "read": r} {
		stands(t, what, c, 0, []int{1, 4, 3}, 0, 0, 0)
		is(t, what, told(c.Yes(9), c.Yes(4), c.Yes(3)), told(false, true, true))
		stands(t, what, c, 1, []int{1}, 2, 1, 0)
	}
}

func TestNodesStayAsTheyAre(t *testing.T) {
	for what, x := range both(three, 2, 1) {
		nodes := make([]int, 4, 8)
		copy(nodes, []int{3, 3, 9, 1})
		was := slices.Clone(nodes[:8])
		x.Yes(nodes...)
		x.No(nodes...)
		is(t, what, nodes[:8], was)
		scribble(nodes, 4)
		stands(t, what, x, 1, []int{4}, 2, 2, 0)
	}
}

func TestOpenIsItsOwnersOwn(t *testing.T) {
	for what, x := range both(primes(9), 2, 1) {
		scribble(x.Open(), 77)
		open := x.Open()
		is(t, what, open, []int{1, 2, 3, 4, 5, 6, 7, 8, 9})
		x.Yes(2, 5)
		x.No(9)
		is(t, what+": it doesn't change later", open, []int{1, 2, 3, 4, 5, 6, 7, 8, 9})
		// What was told may be handed in again.
		is(t, what, x.No(open...), true)
		is(t, what, open, []int{1, 2, 3, 4, 5, 6, 7, 8, 9})
		stands(t, what, x, 1, nil, 2, 2, 7)
	}
}

func TestCellsThatCameMayBeChangedBehindTheCall(t *testing.T) {
	r := quorum.NewRead(three, 2, 1)
	x, y := deep(1, "a", "b"), deep(2, "c")
	wasX, wasY := fmt.Sprint(x), fmt.Sprint(y)
	all := cell.Join(x, y)
	r.Got(1, x)
	r.Got(4, y)
	r.Cell()
	r.Repairs()
	is(t, "what was handed in", told(x, y), told(wasX, wasY))
	scribbleCell(x)
	scribbleCell(y)
	tells(t, "the read", r, all, 1, 4)
	r.Got(3, all)
	scribbleCell(all)
	tells(t, "the read", r, cell.Join(deep(1, "a", "b"), deep(2, "c")), 1, 4)
}

func TestCellIsItsOwnersOwn(t *testing.T) {
	x, y := deep(1, "a", "b"), deep(2, "c")
	for what, cells := range map[string][]api.Cell{"one": {x}, "two": {x, y}, "twice the same": {x, x}, "two kinds": {x, set(3, "z")}} {
		r := quorum.NewRead(primes(3), 2, 1)
		for i, c := range cells {
			r.Got(i+1, c)
		}
		r.None(3)
		c, _ := r.Cell()
		was, repairs := fmt.Sprint(c), r.Repairs()
		scribbleCell(c)
		c, _ = r.Cell()
		is(t, what, told(c), told(was))
		is(t, what+": Repairs", r.Repairs(), repairs)
		is(t, what+": what was handed in", told(x, y), told(deep(1, "a", "b"), deep(2, "c")))
	}
}

func TestCellAndRepairsDoNotChangeLater(t *testing.T) {
	r := quorum.NewRead(primes(9), 2, 1)
	x := deep(1, "a", "b")
	r.Got(9, x)
	for node := 1; node < 8; node++ {
		r.None(node)
	}
	c, _ := r.Cell()
	repairs := r.Repairs()
	r.Got(8, deep(2, "c"))
	r.Cell()
	scribble(r.Repairs(), 77)
	is(t, "Cell", c, x)
	is(t, "Repairs", repairs, []int{1, 2, 3, 4, 5, 6, 7})
	is(t, "Repairs now", r.Repairs(), []int{1, 2, 3, 4, 5, 6, 7, 8, 9})
}
