package post_test

import (
	"fmt"
	"strings"
	"testing"

	"murmuration/api"
	"murmuration/cell"
	"murmuration/gossip"
	"murmuration/pack"
	"murmuration/post"
)

// P19.1: Write

// What stands in the body of a note that has none of it.
const (
	noRing   = "\x11\x00" + noOwners
	noOwners = "\x00\x00\x00\x00\x00\x00\x00\x00\x00\x00\x00\x00\x00\x00\x00\x00"
	noSwap   = "\x00\x00\x00\x00\x00\x00"
	noParcel = "\x00\x00\x00\x00\x00"
)

// oneCounter are the bytes of a list with the counter of key k alone.
const oneCounter = "\x01" + "\x01k" + "\x0b\x04\x01\x01\x01\x01\x01\x01\x0a\x00\x00\x00"

func written(t *testing.T, n api.Note) string {
	t.Helper()
	s, e := post.Write(n)
	if e != api.OK {
		t.Fatalf("Write of %s: %d", shown(n), int(e))
	}
	return s
}

func bodyIs(t *testing.T, n api.Note, want string) {
	t.Helper()
	s := written(t, n)
	if s != plainFrame(want) {
		body, _, _ := pack.Unframe(s)
		t.Errorf("Write of %s: %x, want %x", shown(n), body, want)
	}
}

func refused(t *testing.T, what string, n api.Note, want api.Errno) {
	t.Helper()
	if s, e := post.Write(n); s != "" || e != want {
		t.Errorf("Write, %s: %d bytes, %d, want %d", what, len(s), int(e), int(want))
	}
}

func TestBytesOfKeysNotes(t *testing.T) {
	one := []api.Keyed{keyed("k", counter())}
	bodyIs(t, api.Note{Kind: api.NoteAsk, Ask: 7, Partition: 3, Key: "k"}, "\x02\x0e\x06\x01k\x00\x00"+noRing+noSwap+noParcel)
	bodyIs(t, api.Note{Kind: api.NoteAsk, Ask: -65, Partition: 7}, "\x02\x81\x01\x0e\x00\x00\x00"+noRing+noSwap+noParcel)
	bodyIs(t, api.Note{Kind: api.NoteTell, Ask: 64, Key: "kk", Err: 21}, "\x04\x80\x01\x00\x02kk\x2a\x00"+noRing+noSwap+noParcel)
	bodyIs(t, api.Note{Kind: api.NoteTell, Ask: 1, Partition: 1, Key: "k", Cells: one}, "\x04\x02\x02\x01k\x00"+oneCounter+noRing+noSwap+noParcel)
	bodyIs(t, api.Note{Kind: api.NoteTell, Err: -1, Cells: one}, "\x04\x00\x00\x00\x01"+oneCounter+noRing+noSwap+noParcel)
	bodyIs(t, api.Note{Kind: api.NoteGive, Ask: 300, Partition: 2, Key: "\xff\x00", Cells: one}, "\x06\xd8\x04\x04\x02\xff\x00\x00"+oneCounter+noRing+noSwap+noParcel)
	bodyIs(t, api.Note{Kind: api.NoteTook, Ask: 2, Partition: 5, Key: "k", Err: 22}, "\x08\x04\x0a\x01k\x2c\x00"+noRing+noSwap+noParcel)
}

func TestBytesOfRings(t *testing.T) {
	head := "\x0a\x00\x00\x00\x00\x00"
	bodyIs(t, api.Note{Kind: api.NoteRing}, head+noRing+noSwap+noParcel)
	bodyIs(t, api.Note{Kind: api.NoteRing, Ring: gossip.New(2)}, head+"\x14\x01\x04\x02\x01"+strings.Repeat("\x04\x01", 8)+noSwap+noParcel)
}

func TestBytesOfSwaps(t *testing.T) {
	a, b := sum("a"), sum("b")
	head := "\x0c\x00\x08\x00\x00\x00" + noRing
	for _, x := range []struct {
		m    api.Swap
		want string
	}{
		{api.Swap{}, noSwap},
		{api.Swap{Step: 1, Sums: [][32]byte{a, {}, b}}, "\x02\x00\x03" + string(a[:]) + strings.Repeat("\x00", 32) + string(b[:]) + "\x00\x00\x00"},
		{api.Swap{Step: 2, Places: []int{3, 0, 200, -1}}, "\x04\x04\x06\x00\x90\x03\x01\x00\x00\x00\x00"},
		{api.Swap{Step: 3, Keys: []api.Sum{{Key: "kk", Sum: a}, {Sum: b}}}, "\x06\x00\x00\x02\x02kk" + string(a[:]) + "\x00" + string(b[:]) + "\x00\x00"},
		{api.Swap{Step: 4, Want: []string{"w", "", "vv"}}, "\x08\x00\x00\x00\x00\x03\x01w\x00\x02vv"},
		{api.Swap{Step: 5, Cells: []api.Keyed{keyed("k", counter())}}, "\x0a\x00\x00\x00" + oneCounter + "\x00"},
		{api.Swap{Step: -1, Cells: []api.Keyed{keyed("a", cell.New(1)), keyed("", cell.New(6))}}, "\x01\x00\x00\x00\x02\x01a\x04\x02\x00\x00\x00\x00\x04\x0c\x00\x00\x00\x00"},
		{api.Swap{Step: 6, Places: []int{1}, Sums: [][32]byte{a}, Keys: []api.Sum{{Key: "k", Sum: b}}, Cells: []api.Keyed{keyed("k", counter())}, Want: []string{"w"}},
			"\x0c\x01\x02\x01" + string(a[:]) + "\x01\x01k" + string(b[:]) + oneCounter + "\x01\x01w"},
	} {
		bodyIs(t, api.Note{Kind: api.NoteSwap, Partition: 4, Swap: x.m}, head+x.want+noParcel)
	}
}

func TestBytesOfParcels(t *testing.T) {
	a, b := sum("a"), sum("b")
	head := "\x0e\x00\x00\x00\x00\x00" + noRing + noSwap
	for _, x := range []struct {
		p    api.Parcel
		want string
	}{
		{api.Parcel{}, noParcel},
		{api.Parcel{Partition: 7, Number: 100}, "\x0e\xc8\x01\x00\x00\x00"},
		{api.Parcel{Number: -1, Back: true}, "\x00\x01\x01\x00\x00"},
		{api.Parcel{Number: 1, Cells: []api.Keyed{keyed("k", counter())}}, "\x00\x02\x00" + oneCounter + "\x00"},
		{api.Parcel{Number: 1, Back: true, Sums: []api.Sum{{Key: "kk", Sum: a}, {Sum: b}}}, "\x00\x02\x01\x00\x02\x02kk" + string(a[:]) + "\x00" + string(b[:])},
		{api.Parcel{Partition: 1, Number: 2, Cells: []api.Keyed{keyed("k", counter())}, Sums: []api.Sum{{Key: "s", Sum: a}}}, "\x02\x04\x00" + oneCounter + "\x01\x01s" + string(a[:])},
	} {
		bodyIs(t, api.Note{Kind: api.NoteParcel, Parcel: x.p}, head+x.want)
	}
}

func TestWritesAllKinds(t *testing.T) {
	for _, n := range rightNotes() {
		bodyIs(t, n, plainBody(n))
		bodyIs(t, emptied(n), plainBody(n))
	}
}

func TestWritesNoWrongNotes(t *testing.T) {
	one, two := []api.Keyed{keyed("k", counter())}, []api.Keyed{keyed("k", counter()), keyed("k", counter())}
	refused(t, "Ask with a cell", api.Note{Kind: api.NoteAsk, Ask: 7, Partition: 3, Key: "k", Cells: one}, api.ErrArg)
	refused(t, "Tell with two", api.Note{Kind: api.NoteTell, Key: "k", Cells: two}, api.ErrArg)
	refused(t, "a Ring with a key", api.Note{Kind: api.NoteRing, Key: "k"}, api.ErrArg)
	refused(t, "Give without a cell", api.Note{Kind: api.NoteGive, Key: "k"}, api.ErrArg)
	refused(t, "nothing", api.Note{}, api.ErrArg)
	for _, n := range rightNotes() {
		for _, c := range changes() {
			if spoiled := c.done(n); !plainRight(spoiled) {
				refused(t, fmt.Sprint("kind ", n.Kind, ", ", c.part, ", ", c.what), spoiled, api.ErrArg)
			}
		}
	}
}

// filled has a note's body be of just so many bytes, by a text in it of more than 2^14 of them.
func filled(size int, put func(text string) api.Note) api.Note {
	return put(strings.Repeat("x", size-len(plainBody(put("")))-2))
}

// fillings have a text in each kind of note that may have one.
func fillings() map[string]func(text string) api.Note {
	return map[string]func(text string) api.Note{
		"a key":  func(s string) api.Note { return api.Note{Kind: api.NoteAsk, Key: s} },
		"a want": func(s string) api.Note { return api.Note{Kind: api.NoteSwap, Swap: api.Swap{Want: []string{"a", s}}} },
		"a sum": func(s string) api.Note {
			return api.Note{Kind: api.NoteParcel, Parcel: api.Parcel{Sums: []api.Sum{{Key: s}}}}
		},
		"a cell's": func(s string) api.Note { return api.Note{Kind: api.NoteGive, Cells: []api.Keyed{keyed(s, counter())}} },
	}
}

func TestSizes(t *testing.T) {
	for what, put := range fillings() {
		n := filled(api.MaxFrame, put)
		is(t, what, len(plainBody(n)), 65536)
		s := written(t, n)
		got, e := post.Read(s)
		if s != plainFrame(plainBody(n)) || e != api.OK || shown(got) != shown(n) {
			t.Errorf("%s, the longest: %d", what, int(e))
		}
		n = filled(api.MaxFrame+1, put)
		refused(t, what+", a byte more", n, api.ErrSize)
		n.Kind = 8
		refused(t, what+", which isn't right either", n, api.ErrArg)
	}
}

// R5
func TestFarTooMuch(t *testing.T) {
	const many = 200000
	cells := make([]api.Keyed, many)
	for i := range cells {
		cells[i] = keyed("k", counter())
	}
	for what, n := range map[string]api.Note{
		"a key":        {Kind: api.NoteTook, Key: strings.Repeat("k", 1<<24)},
		"places":       {Kind: api.NoteSwap, Swap: api.Swap{Places: make([]int, many)}},
		"sums":         {Kind: api.NoteSwap, Swap: api.Swap{Sums: make([][32]byte, many)}},
		"keys":         {Kind: api.NoteSwap, Swap: api.Swap{Keys: make([]api.Sum, many)}},
		"cells":        {Kind: api.NoteSwap, Swap: api.Swap{Cells: cells}},
		"wants":        {Kind: api.NoteSwap, Swap: api.Swap{Want: make([]string, many)}},
		"some cells":   {Kind: api.NoteParcel, Parcel: api.Parcel{Cells: cells}},
		"cells' sums":  {Kind: api.NoteParcel, Parcel: api.Parcel{Sums: make([]api.Sum, many)}},
		"a great cell": {Kind: api.NoteTell, Cells: []api.Keyed{keyed("k", object(strings.Repeat("x", 20000), strings.Repeat("y", 20000), strings.Repeat("z", 20000), strings.Repeat("w", 20000)))}},
	} {
		refused(t, what, n, api.ErrSize)
		n.Partition = 8
		refused(t, what+", not right either", n, api.ErrArg)
	}
	refused(t, "too many cells told", api.Note{Kind: api.NoteTell, Cells: cells}, api.ErrArg)
	refused(t, "many members", api.Note{Kind: api.NoteRing, Ring: api.Ring{Members: make([]api.Member, many)}}, api.ErrArg)
}
