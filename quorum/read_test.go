package quorum_test

import (
	"testing"

	"murmuration/api"
	"murmuration/cell"
	"murmuration/quorum"
)

// P16.2

func TestExampleOfARead(t *testing.T) {
	x := set(1, "x")
	r := quorum.NewRead(three, 2, 1)
	is(t, "told", told(r.Got(1, x), r.None(3), r.Repairs()), told(true, true, []int{3}))
	tells(t, "the read", r, x, 3)
}

func TestNoCellCame(t *testing.T) {
	r := quorum.NewRead(three, 2, 0)
	tellsNone(t, "nobody said anything", r)
	r.None(4)
	tellsNone(t, "one has none", r)
	r.No(3)
	r.Yes(1)
	tellsNone(t, "nobody has one", r)
	stands(t, "the read", r, 1, nil, 2, 1, 1)
}

func TestGotAndNoneAreLikeYes(t *testing.T) {
	x := set(1, "x")
	r := quorum.NewRead(three, 2, 1)
	is(t, "of no target", told(r.Got(2, x), r.None(2), r.Got(0, x), r.None(-1)), told(false, false, false, false))
	stands(t, "the read", r, 0, []int{1, 4, 3}, 0, 0, 0)
	tellsNone(t, "of no target", r)
	is(t, "Got once", told(r.Got(4, x), r.Got(4, x), r.None(4), r.Yes(4), r.No(4)), told(true, false, false, false, false))
	stands(t, "the read", r, 0, []int{1, 3}, 1, 0, 0)
	is(t, "None once", told(r.None(1), r.None(1), r.Got(1, x), r.Yes(1), r.No(1)), told(true, false, false, false, false))
	stands(t, "the read", r, 1, []int{3}, 2, 1, 0)
}

// Only a cell of one who was open is kept.
func TestCellsOfThoseThatWereOpen(t *testing.T) {
	x, y := set(1, "x"), set(2, "y")
	r := quorum.NewRead(three, 3, 0)
	r.Got(1, x)
	r.Got(1, y)
	tells(t, "a second one", r, x)
	r.None(4)
	r.Got(4, y)
	tells(t, "behind None", r, x, 4)
	r.No(3)
	r.Got(3, y)
	tells(t, "behind No", r, x, 4)
	r.Got(9, y)
	tells(t, "of no target", r, x, 4)

	s := quorum.NewRead(three, 3, 0)
	s.Yes(1)
	s.Got(1, x)
	tellsNone(t, "behind Yes", s)
	s.Got(3, y)
	tells(t, "who said yes, and had none", s, y, 1)
}

func TestCellIsTheJoin(t *testing.T) {
	x, y, z := set(1, "x"), set(2, "y"), set(3, "z")
	r := quorum.NewRead(three, 3, 0)
	r.Got(3, z)
	tells(t, "of one", r, z)
	r.Got(1, x)
	tells(t, "of two", r, cell.Join(x, z), 1, 3)
	r.Got(4, y)
	all := cell.Join(cell.Join(x, y), z)
	tells(t, "of three", r, all, 1, 4, 3)
	is(t, "what it tells", cell.Tell(all).L, []string{"x", "y", "z"})
}

// Who has all is not to be repaired, though others are.
func TestRepairsOfThoseThatHaveLess(t *testing.T) {
	x := set(1, "x")
	all := cell.Join(x, set(2, "y", "z"))
	r := quorum.NewRead(primes(5), 3, 0)
	r.Got(5, x)
	tells(t, "it alone", r, x)
	r.None(2)
	tells(t, "one has none", r, x, 2)
	r.Got(4, all)
	tells(t, "one has more", r, all, 2, 5)
	r.No(1)
	tells(t, "who says no is not repaired", r, all, 2, 5)
	r.Got(3, all)
	tells(t, "one has all", r, all, 2, 5)
}

func TestAlikeCellsNeedNoRepairs(t *testing.T) {
	for _, c := range []api.Cell{set(1, "x"), set(1), object(2, "a", "b"), cell.New(api.KindMap), {}} {
		r := quorum.NewRead(three, 2, 0)
		r.Got(3, c)
		r.Got(4, c)
		tells(t, "two of three", r, c)
		is(t, "Open", r.Open(), []int{1})
	}
}

// What was taken away is a cell, too: whoever still has it is repaired.
func TestARemovalIsRepaired(t *testing.T) {
	x := set(1, "x")
	gone, e := cell.Update(x, api.Update{Op: api.OpRemove, S: "x"}, api.Dot{Actor: 2, N: 1})
	is(t, "Remove", e, api.OK)
	r := quorum.NewRead(three, 2, 0)
	r.Got(1, x)
	r.Got(3, gone)
	r.None(4)
	tells(t, "the read", r, gone, 1, 4)
	is(t, "Dead", cell.Dead(gone), true)
}

func TestSiblings(t *testing.T) {
	a, b := object(1, "a"), object(2, "b")
	r := quorum.NewRead(three, 2, 0)
	r.Got(3, b)
	r.Got(1, a)
	tells(t, "the read", r, cell.Join(a, b), 1, 3)
	c, _ := r.Cell()
	is(t, "what it tells", cell.Tell(c).L, []string{"a", "b"})
}

func TestCellsOfSeveralKinds(t *testing.T) {
	a, x := object(1, "a"), set(2, "x")
	for _, first := range []int{1, 3} {
		r := quorum.NewRead(three, 2, 0)
		r.Got(first, a)
		r.Got(4-first, x)
		tells(t, "the greater kind", r, x, first)
	}
}

// Cells count as their Norm, whatever they are handed in as; those that are wrong do no harm.
func TestCellsThatAreNotTheirNorm(t *testing.T) {
	rough := api.Cell{
		Kind:  api.KindSet,
		Clock: api.Clock{{Actor: 2, N: 1}, {Actor: 1, N: 0}, {Actor: 1, N: 1}, {Actor: 2, N: 3}},
		Store: api.Store{Fields: []api.Field{{Name: "x", Store: api.Store{Entries: []api.Entry{{Dot: api.Dot{Actor: 2, N: 3}}, {Dot: api.Dot{Actor: 1, N: 1}}}}}, {Name: "none"}}},
	}
	smooth := cell.Join(rough, rough)
	is(t, "they are told from one another", cell.Right(rough), false)
	is(t, "its Norm", cell.Right(smooth), true)
	r := quorum.NewRead(three, 2, 0)
	r.Got(3, rough)
	tells(t, "it alone", r, smooth)
	r.Got(1, smooth)
	tells(t, "with its Norm", r, smooth)
	r.Got(4, rough)
	tells(t, "thrice", r, smooth)

	unseen := api.Cell{Kind: -3, Store: api.Store{Entries: []api.Entry{{Dot: api.Dot{Actor: 1, N: 1}, S: "x"}}}}
	s := quorum.NewRead(three, 2, 0)
	s.Got(1, unseen)
	tells(t, "of no kind, with what it has not seen", s, unseen)
	s.Got(4, api.Cell{})
	tells(t, "with a cell of nothing", s, api.Cell{}, 1)
}

func TestTargetsOfOneNodeHaveOneCell(t *testing.T) {
	x, y := set(1, "x"), set(2, "y")
	r := quorum.NewRead([]api.Target{{Node: 1, For: 2}, {Node: 1, For: 1}, {Node: 3, For: 3}, {Node: 3, For: 3}}, 2, 0)
	is(t, "Got", told(r.Got(1, x), r.Got(1, y), r.None(3)), told(true, false, true))
	tells(t, "the read", r, x, 3)
}

// A read of one's own making, of a tally, keeps cells as any.
func TestReadOfATally(t *testing.T) {
	x := set(1, "x")
	r := quorum.Read{Tally: *quorum.New(three, 1, 0)}
	tellsNone(t, "a new one", &r)
	is(t, "Got", r.Got(3, x), true)
	tells(t, "the read", &r, x)
	stands(t, "the read", &r, 1, []int{1, 4}, 1, 1, 0)
}

// R1

func TestNilAndZeroReads(t *testing.T) {
	for what, r := range map[string]*quorum.Read{"nil": nil, "zero": {}, "nothing": quorum.NewRead(nil, 0, 0)} {
		is(t, what, told(r.Got(1, set(1, "x")), r.Got(0, api.Cell{}), r.None(1), r.None(0)), told(false, false, false, false))
		tellsNone(t, what, r)
	}
}
