package post_test

import (
	"fmt"
	"slices"
	"strings"
	"testing"

	"murmuration/api"
	"murmuration/cell"
	"murmuration/post"
)

// P19.1: Right and Same

// change puts something into a part of a note.
type change struct {
	part, what string
	do         func(n *api.Note)
}

func (c change) done(n api.Note) api.Note {
	c.do(&n)
	return n
}

// goodChanges are right wherever the part belongs.
func goodChanges() []change {
	return slices.Concat(noteChanges(), swapChanges(), parcelChanges(), ringChanges())
}

func noteChanges() []change {
	return []change{
		{"Ask", "1", func(n *api.Note) { n.Ask = 1 }},
		{"Ask", "the least", func(n *api.Note) { n.Ask = least }},
		{"Ask", "the greatest", func(n *api.Note) { n.Ask = most }},
		{"Partition", "1", func(n *api.Note) { n.Partition = 1 }},
		{"Partition", "7", func(n *api.Note) { n.Partition = 7 }},
		{"Key", "a letter", func(n *api.Note) { n.Key = "k" }},
		{"Key", "a zero byte", func(n *api.Note) { n.Key = "\x00" }},
		{"Key", "longer than a key may be", func(n *api.Note) { n.Key = strings.Repeat("k", 300) }},
		{"Err", "an error", func(n *api.Note) { n.Err = api.ErrNone }},
		{"Err", "one that is none", func(n *api.Note) { n.Err = -1 }},
		{"Err", "the least", func(n *api.Note) { n.Err = least }},
		{"Cells", "a cell", func(n *api.Note) { n.Cells = []api.Keyed{keyed("k", counter())} }},
		{"Cells", "one of another key", func(n *api.Note) { n.Cells = []api.Keyed{keyed("other", cell.New(1))} }},
	}
}

func swapChanges() []change {
	return []change{
		{"Swap", "all", func(n *api.Note) { n.Swap = fullSwap() }},
		{"Swap", "Step", func(n *api.Note) { n.Swap.Step = 1 }},
		{"Swap", "a Step that is none", func(n *api.Note) { n.Swap.Step = least }},
		{"Swap", "Places", func(n *api.Note) { n.Swap.Places = []int{0} }},
		{"Swap", "Places that are none", func(n *api.Note) { n.Swap.Places = []int{most, -1} }},
		{"Swap", "Sums", func(n *api.Note) { n.Swap.Sums = [][32]byte{{}} }},
		{"Swap", "Keys", func(n *api.Note) { n.Swap.Keys = []api.Sum{{}} }},
		{"Swap", "Cells", func(n *api.Note) { n.Swap.Cells = []api.Keyed{keyed("", cell.New(6))} }},
		{"Swap", "some Cells", func(n *api.Note) { n.Swap.Cells = []api.Keyed{keyed("k", counter()), keyed("k", bag())} }},
		{"Swap", "Want", func(n *api.Note) { n.Swap.Want = []string{""} }},
	}
}

func parcelChanges() []change {
	return []change{
		{"Parcel", "all", func(n *api.Note) { n.Parcel = fullParcel() }},
		{"Parcel", "Partition 1", func(n *api.Note) { n.Parcel.Partition = 1 }},
		{"Parcel", "Partition 7", func(n *api.Note) { n.Parcel.Partition = 7 }},
		{"Parcel", "Number", func(n *api.Note) { n.Parcel.Number = 1 }},
		{"Parcel", "a Number below 0", func(n *api.Note) { n.Parcel.Number = least }},
		{"Parcel", "Back", func(n *api.Note) { n.Parcel.Back = true }},
		{"Parcel", "Cells", func(n *api.Note) { n.Parcel.Cells = []api.Keyed{keyed("", cell.New(1))} }},
		{"Parcel", "some Cells", func(n *api.Note) { n.Parcel.Cells = []api.Keyed{keyed("k", counter()), keyed("k", bag())} }},
		{"Parcel", "Sums", func(n *api.Note) { n.Parcel.Sums = []api.Sum{{}} }},
	}
}

func ringChanges() []change {
	return []change{
		{"Ring", "all", func(n *api.Note) { n.Ring = ring() }},
		{"Ring", "a member", func(n *api.Note) { n.Ring.Members = []api.Member{{Node: 1, State: 1}} }},
		{"Ring", "an owner", func(n *api.Note) { n.Ring.Owners[7].Node = 7 }},
		{"Ring", "a V of nobody", func(n *api.Note) { n.Ring.Owners[0].V = 1 }},
	}
}

// badChanges are right nowhere.
func badChanges() []change {
	var l []change
	for _, p := range []int{-1, 8, 256, 1 << 32, most, least} {
		l = append(l,
			change{"Partition", fmt.Sprint(p), func(n *api.Note) { n.Partition = p }},
			change{"Parcel", fmt.Sprint("Partition ", p), func(n *api.Note) { n.Parcel.Partition = p }})
	}
	for _, kind := range []int{0, -1, 8, 9, 256 + 1, 1<<32 + 1, most, least} {
		l = append(l, change{"Kind", fmt.Sprint(kind), func(n *api.Note) { n.Kind = kind }})
	}
	for what, c := range wrongCells() {
		wrong := keyed("k", c)
		l = append(l,
			change{"Cells", what, func(n *api.Note) { n.Cells = []api.Keyed{wrong} }},
			change{"Swap", "Cells, alone, " + what, func(n *api.Note) { n.Swap.Cells = []api.Keyed{wrong} }},
			change{"Swap", "Cells, the last, " + what, func(n *api.Note) { n.Swap.Cells = []api.Keyed{keyed("k", counter()), wrong} }},
			change{"Parcel", "Cells, alone, " + what, func(n *api.Note) { n.Parcel.Cells = []api.Keyed{wrong} }},
			change{"Parcel", "Cells, the first, " + what, func(n *api.Note) { n.Parcel.Cells = []api.Keyed{wrong, keyed("k", counter())} }})
	}
	for what, r := range wrongRings() {
		l = append(l, change{"Ring", what, func(n *api.Note) { n.Ring = r }})
	}
	two := []api.Keyed{keyed("k", counter()), keyed("k", counter())}
	l = append(l,
		change{"Cells", "two", func(n *api.Note) { n.Cells = two }},
		change{"Cells", "three", func(n *api.Note) { n.Cells = append(two, two[0]) }})
	slices.SortFunc(l, func(a, b change) int { return strings.Compare(a.part+a.what, b.part+b.what) })
	return l
}

func changes() []change { return append(goodChanges(), badChanges()...) }

func right(t *testing.T, what string, n api.Note, want bool) {
	t.Helper()
	if got := post.Right(n); got != want {
		t.Errorf("Right, %s: %v: %s", what, got, shown(n))
	}
	writes(t, n)
}

func TestRight(t *testing.T) {
	for _, n := range rightNotes() {
		right(t, "as it should be", n, true)
		for _, c := range goodChanges() {
			own := slices.Contains(strings.Fields(belongs[n.Kind]), c.part)
			right(t, fmt.Sprint("kind ", n.Kind, ", ", c.part, ", ", c.what), c.done(n), own)
		}
		for _, c := range badChanges() {
			right(t, fmt.Sprint("kind ", n.Kind, ", ", c.part, ", ", c.what), c.done(n), false)
		}
	}
}

func TestRightCells(t *testing.T) {
	for _, c := range rightCells() {
		l := []api.Keyed{keyed("k", c)}
		right(t, "told", api.Note{Kind: api.NoteTell, Cells: l}, true)
		right(t, "given", api.Note{Kind: api.NoteGive, Cells: l}, true)
		right(t, "in an exchange", api.Note{Kind: api.NoteSwap, Swap: api.Swap{Cells: l}}, true)
		right(t, "in a parcel", api.Note{Kind: api.NoteParcel, Parcel: api.Parcel{Cells: l}}, true)
	}
}

// How many cells there are hangs on the kind alone.
func TestHowManyCells(t *testing.T) {
	one, two := []api.Keyed{keyed("k", counter())}, []api.Keyed{keyed("k", counter()), keyed("l", counter())}
	for kind, most := range map[int][]bool{
		api.NoteAsk: {true, false, false}, api.NoteTell: {true, true, false}, api.NoteGive: {false, true, false}, api.NoteTook: {true, false, false},
		api.NoteRing: {true, false, false}, api.NoteSwap: {true, false, false}, api.NoteParcel: {true, false, false},
	} {
		for many, l := range [][]api.Keyed{nil, one, two} {
			right(t, fmt.Sprint("kind ", kind, ", cells ", many), api.Note{Kind: kind, Cells: l}, most[many])
		}
	}
	right(t, "an error and a cell", api.Note{Kind: api.NoteTell, Err: api.ErrNone, Cells: one}, true)
	right(t, "neither", api.Note{Kind: api.NoteTell}, true)
}

// R1: nil is an empty list.
func TestRightWithEmptyLists(t *testing.T) {
	for _, n := range rightNotes() {
		full := emptied(n)
		right(t, "empty lists", full, true)
		if !post.Same(n, full) {
			t.Errorf("Same: %s", shown(n))
		}
	}
}

// emptied has an empty list where there is nil.
func emptied(n api.Note) api.Note {
	n.Cells, n.Ring.Members = notNil(n.Cells), notNil(n.Ring.Members)
	n.Swap.Places, n.Swap.Sums, n.Swap.Keys = notNil(n.Swap.Places), notNil(n.Swap.Sums), notNil(n.Swap.Keys)
	n.Swap.Cells, n.Swap.Want = notNil(n.Swap.Cells), notNil(n.Swap.Want)
	n.Parcel.Cells, n.Parcel.Sums = notNil(n.Parcel.Cells), notNil(n.Parcel.Sums)
	return n
}

func notNil[T any](l []T) []T {
	if l == nil {
		return []T{}
	}
	return l
}

func TestNothingIsNotRight(t *testing.T) {
	right(t, "nothing", api.Note{}, false)
}

func same(t *testing.T, what string, a, b api.Note, want bool) {
	t.Helper()
	if post.Same(a, b) != want || post.Same(b, a) != want {
		t.Errorf("Same, %s: %v", what, !want)
	}
}

// Notes are unlike in whatever they are unlike, right or not.
func TestSame(t *testing.T) {
	for i, a := range rightNotes() {
		for k, b := range rightNotes() {
			same(t, fmt.Sprint(i, " ", k), a, b, i == k)
		}
		for _, c := range changes() {
			b := c.done(a)
			what := fmt.Sprint("kind ", a.Kind, ", ", c.part, ", ", c.what)
			same(t, what, a, b, plainBody(a) == plainBody(b))
			same(t, what+", twice", b, c.done(a), true)
		}
	}
	same(t, "nothing", api.Note{}, api.Note{}, true)
	same(t, "no kind", api.Note{}, api.Note{Kind: 8}, false)
}

// The bodies have Norms: those of notes that are not right may be the same.
func TestSameIsOfBodies(t *testing.T) {
	for what, r := range wrongRings() {
		n := api.Note{Kind: api.NoteRing, Ring: r}
		same(t, what, n, normed(n), true)
		same(t, what+", and nothing", n, api.Note{Kind: api.NoteRing}, strings.HasPrefix(what, "alike"))
	}
	one := api.Keyed{Key: "k", Cell: api.Cell{Kind: 1, Clock: api.Clock{{Actor: 2, N: 1}, {Actor: 1, N: 1}}}}
	n := api.Note{Kind: api.NoteGive, Cells: []api.Keyed{one}}
	same(t, "a cell out of order", n, normed(n), true)
}

// What lies in one list is not what lies in another one.
func TestNotTheSameElsewhere(t *testing.T) {
	l, sums := []api.Keyed{keyed("k", counter())}, []api.Sum{{Key: "k", Sum: sum("s")}}
	notes := []api.Note{
		{Cells: l}, {Swap: api.Swap{Cells: l}}, {Parcel: api.Parcel{Cells: l}},
		{Swap: api.Swap{Keys: sums}}, {Parcel: api.Parcel{Sums: sums}},
		{Ask: 1}, {Partition: 1}, {Err: 1}, {Swap: api.Swap{Step: 1}}, {Parcel: api.Parcel{Partition: 1}}, {Parcel: api.Parcel{Number: 1}},
		{Key: "k"}, {Swap: api.Swap{Want: []string{"k"}}},
		{Swap: api.Swap{Want: []string{"a", "b"}}}, {Swap: api.Swap{Want: []string{"b", "a"}}}, {Swap: api.Swap{Want: []string{"ab"}}},
		{Swap: api.Swap{Places: []int{1, 2}}}, {Swap: api.Swap{Places: []int{2, 1}}},
		{Swap: api.Swap{Cells: append(l, keyed("l", bag()))}}, {Swap: api.Swap{Cells: append([]api.Keyed{keyed("l", bag())}, l...)}},
	}
	for i, a := range notes {
		for k, b := range notes {
			same(t, fmt.Sprint(i, " ", k), a, b, i == k)
		}
	}
}
