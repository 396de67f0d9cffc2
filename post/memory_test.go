package post_test

import (
	"slices"
	"testing"

	"murmuration/api"
	"murmuration/cell"
	"murmuration/post"
)

// R3

// scribble writes over all that a list could reach.
func scribble[T any](l []T, with T) {
	l = l[:cap(l)]
	for i := range l {
		l[i] = with
	}
}

func scribbleCells(l []api.Keyed) {
	for _, k := range l {
		scribble(k.Cell.Clock, api.Dot{Actor: 99, N: 99})
		scribbleStore(k.Cell.Store)
	}
	scribble(l, api.Keyed{Key: "scribbled"})
}

func scribbleStore(s api.Store) {
	for _, f := range s.Fields {
		scribbleStore(f.Store)
	}
	scribble(s.Entries, api.Entry{S: "scribbled"})
	scribble(s.Fields, api.Field{Name: "scribbled"})
}

// scribbleNote is what an owner may do to a note.
func scribbleNote(n api.Note) {
	for _, l := range [][]api.Keyed{n.Cells, n.Swap.Cells, n.Parcel.Cells} {
		scribbleCells(l)
	}
	scribble(n.Ring.Members, api.Member{Node: 99})
	scribble(n.Swap.Places, 99)
	scribble(n.Swap.Sums, sum("scribbled"))
	scribble(n.Swap.Keys, api.Sum{Key: "scribbled"})
	scribble(n.Swap.Want, "scribbled")
	scribble(n.Parcel.Sums, api.Sum{Key: "scribbled"})
}

// roomy has the same elements, and room behind them in which something may be written by mistake.
func roomy[T any](l []T, behind T) []T {
	l = append(slices.Clone(l), behind, behind, behind)
	return l[:len(l)-3]
}

func roomyCells(l []api.Keyed) []api.Keyed {
	var cells []api.Keyed
	for _, k := range l {
		c := cell.Join(k.Cell, k.Cell)
		c.Clock = roomy(c.Clock, api.Dot{Actor: 7, N: 7})
		c.Store.Entries = roomy(c.Store.Entries, api.Entry{S: "behind"})
		cells = append(cells, keyed(k.Key, c))
	}
	return roomy(cells, api.Keyed{Key: "behind"})
}

// roomyNote shares nothing with the note that it is like.
func roomyNote(n api.Note) api.Note {
	n.Cells, n.Swap.Cells, n.Parcel.Cells = roomyCells(n.Cells), roomyCells(n.Swap.Cells), roomyCells(n.Parcel.Cells)
	n.Ring.Members = roomy(n.Ring.Members, api.Member{Node: 7})
	n.Swap.Places, n.Swap.Sums, n.Swap.Want = roomy(n.Swap.Places, 7), roomy(n.Swap.Sums, sum("behind")), roomy(n.Swap.Want, "behind")
	n.Swap.Keys, n.Parcel.Sums = roomy(n.Swap.Keys, api.Sum{Key: "behind"}), roomy(n.Parcel.Sums, api.Sum{Key: "behind"})
	return n
}

// whole is a note with what lies in its lists' room.
func whole(n api.Note) string {
	for _, l := range []*[]api.Keyed{&n.Cells, &n.Swap.Cells, &n.Parcel.Cells} {
		*l = slices.Clone((*l)[:cap(*l)])
		for i := range *l {
			c := &(*l)[i].Cell
			c.Clock, c.Store.Entries = c.Clock[:cap(c.Clock)], c.Store.Entries[:cap(c.Store.Entries)]
		}
	}
	n.Ring.Members = n.Ring.Members[:cap(n.Ring.Members)]
	n.Swap.Places, n.Swap.Sums, n.Swap.Keys = n.Swap.Places[:cap(n.Swap.Places)], n.Swap.Sums[:cap(n.Swap.Sums)], n.Swap.Keys[:cap(n.Swap.Keys)]
	n.Swap.Want, n.Parcel.Sums = n.Swap.Want[:cap(n.Swap.Want)], n.Parcel.Sums[:cap(n.Parcel.Sums)]
	return shown(n)
}

func TestNotesThatAreHandedInStay(t *testing.T) {
	for _, n := range rightNotes() {
		for _, c := range append(changes(), change{do: func(*api.Note) {}}) {
			a, b := roomyNote(c.done(n)), roomyNote(n)
			wasA, wasB := whole(a), whole(b)
			s, _ := post.Write(a)
			post.Right(a)
			post.Same(a, b)
			post.Same(b, a)
			if whole(a) != wasA || whole(b) != wasB {
				t.Fatalf("what was handed in: %s, was %s", whole(a), wasA)
			}
			scribbleNote(a)
			if again, _ := post.Write(roomyNote(c.done(n))); again != s {
				t.Fatalf("kind %d, %s, %s: other bytes", n.Kind, c.part, c.what)
			}
		}
	}
}

func TestNotesThatAreReadAreTheOwnersOwn(t *testing.T) {
	for _, n := range fullest() {
		s := written(t, n)
		one, _ := post.Read(s)
		two, _ := post.Read(s)
		scribbleNote(one)
		is(t, "another one", shown(two), shown(n))
		reads(t, "once more", s, n)
	}
}

// No two lists of one answer share any memory: one is written over and left out, all others stay.
func TestListsOfANoteLieApart(t *testing.T) {
	for _, spoil := range []func(n *api.Note){
		func(n *api.Note) { scribble(n.Swap.Places, 99); n.Swap.Places = nil },
		func(n *api.Note) { scribble(n.Swap.Sums, sum("scribbled")); n.Swap.Sums = nil },
		func(n *api.Note) { scribble(n.Swap.Keys, api.Sum{Key: "scribbled"}); n.Swap.Keys = nil },
		func(n *api.Note) { scribbleCells(n.Swap.Cells); n.Swap.Cells = nil },
		func(n *api.Note) { scribbleCells(n.Swap.Cells[1:]); n.Swap.Cells = n.Swap.Cells[:1] },
		func(n *api.Note) { scribble(n.Swap.Want, "scribbled"); n.Swap.Want = nil },
	} {
		spoiled(t, api.Note{Kind: api.NoteSwap, Swap: fullSwap()}, spoil)
	}
	for _, spoil := range []func(n *api.Note){
		func(n *api.Note) { scribbleCells(n.Parcel.Cells); n.Parcel.Cells = nil },
		func(n *api.Note) { scribbleCells(n.Parcel.Cells[1:]); n.Parcel.Cells = n.Parcel.Cells[:1] },
		func(n *api.Note) { scribble(n.Parcel.Sums, api.Sum{Key: "scribbled"}); n.Parcel.Sums = nil },
	} {
		spoiled(t, api.Note{Kind: api.NoteParcel, Parcel: fullParcel()}, spoil)
	}
}

func spoiled(t *testing.T, n api.Note, spoil func(n *api.Note)) {
	t.Helper()
	got, _ := post.Read(written(t, n))
	spoil(&got)
	spoil(&n)
	if shown(got) != shown(n) {
		t.Errorf("what is left: %s, want %s", shown(got), shown(n))
	}
}
