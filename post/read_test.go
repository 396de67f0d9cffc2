package post_test

import (
	"encoding/binary"
	"fmt"
	"reflect"
	"strings"
	"testing"

	"murmuration/api"
	"murmuration/cell"
	"murmuration/post"
)

// P19.1: Read

func reads(t *testing.T, what, s string, want api.Note) {
	t.Helper()
	n, e := post.Read(s)
	if e != api.OK || shown(n) != shown(want) {
		t.Errorf("Read, %s: %.600s, %d, want %.600s", what, shown(n), int(e), shown(want))
	}
}

func unread(t *testing.T, what, s string, want api.Errno) {
	t.Helper()
	n, e := post.Read(s)
	if e != want || !reflect.DeepEqual(n, api.Note{}) {
		t.Errorf("Read, %s: %.600s, %d, want %d", what, shown(n), int(e), int(want))
	}
}

// noBody says that a whole frame has no note in it.
func noBody(t *testing.T, what, body string) {
	t.Helper()
	unread(t, what, plainFrame(body), api.ErrForm)
}

func TestRead(t *testing.T) {
	for _, n := range rightNotes() {
		reads(t, "as it is written", plainFrame(plainBody(n)), n)
	}
	reads(t, "the example", plainFrame("\x02\x0e\x06\x01k\x00\x00"+noRing+noSwap+noParcel), api.Note{Kind: api.NoteAsk, Ask: 7, Partition: 3, Key: "k"})
	for _, n := range []int{0, 1, -1, most, least} {
		for _, x := range []api.Note{
			{Kind: api.NoteAsk, Ask: n}, {Kind: api.NoteTook, Err: api.Errno(n)}, {Kind: api.NoteSwap, Swap: api.Swap{Step: n, Places: []int{n}}}, {Kind: api.NoteParcel, Parcel: api.Parcel{Number: n}},
		} {
			reads(t, fmt.Sprint(n), plainFrame(plainBody(x)), x)
		}
	}
	for _, c := range rightCells() {
		x := api.Note{Kind: api.NoteTell, Cells: []api.Keyed{keyed("k", c)}}
		reads(t, "a cell", plainFrame(plainBody(x)), x)
	}
}

func TestReadOfNoFrame(t *testing.T) {
	unread(t, "nothing", "", api.ErrShort)
	unread(t, "a length without an end", strings.Repeat("\xff", 5), api.ErrShort)
	unread(t, "a length with a needless byte", "\x80\x00\x00\x00\x00\x00", api.ErrForm)
	unread(t, "a length above 2^64 - 1", strings.Repeat("\xff", 9)+"\x02", api.ErrForm)
	unread(t, "zeros", strings.Repeat("\x00", 100), api.ErrForm)
	unread(t, "a length of 65537", "\x81\x80\x04", api.ErrSize)
	unread(t, "the greatest length", strings.Repeat("\xff", 9)+"\x01", api.ErrSize)
	unread(t, "a length of 65536 alone", "\x80\x80\x04", api.ErrShort)
	for _, n := range rightNotes() {
		whole := plainFrame(plainBody(n))
		for cut := range len(whole) {
			unread(t, "a beginning", whole[:cut], api.ErrShort)
		}
		wrong := whole[:len(whole)-1] + string([]byte{whole[len(whole)-1] ^ 1})
		unread(t, "a wrong check", wrong, api.ErrCheck)
		unread(t, "a wrong check, and bytes behind it", wrong+"x", api.ErrCheck)
	}
	for what, put := range fillings() {
		unread(t, what+", too long", plainFrame(plainBody(filled(api.MaxFrame+1, put))), api.ErrSize)
	}
}

func TestReadWithBytesBehind(t *testing.T) {
	for _, n := range rightNotes() {
		whole := plainFrame(plainBody(n))
		for b := range 256 {
			unread(t, "a byte behind", whole+string([]byte{byte(b)}), api.ErrForm)
		}
		unread(t, "two frames", whole+whole, api.ErrForm)
		unread(t, "a beginning behind", whole+whole[:5], api.ErrForm)
		unread(t, "a byte ahead of the body's end", plainFrame(plainBody(n)+"\x00"), api.ErrForm)
	}
	unread(t, "no note, and a byte behind", plainFrame("x")+"x", api.ErrForm)
}

func TestReadOfWrongNotes(t *testing.T) {
	for _, n := range rightNotes() {
		for _, c := range changes() {
			spoiled := c.done(n)
			what := fmt.Sprint("kind ", n.Kind, ", ", c.part, ", ", c.what)
			if norm := normed(spoiled); plainRight(norm) {
				reads(t, what, plainFrame(plainBody(spoiled)), norm)
			} else {
				noBody(t, what, plainBody(spoiled))
			}
		}
	}
}

// Texts in the body that are no cell's and no ring's.
func TestReadOfNoCells(t *testing.T) {
	wrong := map[string]string{"nothing": "", "a Kind alone": "\x02", "a byte behind": "\x02\x00\x00\x00\x00", "two": "\x02\x00\x00\x00\x02\x00\x00\x00", "a needless byte": "\x82\x00\x00\x00\x00"}
	for what, c := range wrongCells() {
		wrong[what] = plainCell(c)
	}
	for what, s := range wrong {
		l := "\x01\x01k" + string(binary.AppendUvarint(nil, uint64(len(s)))) + s
		noBody(t, "told: "+what, "\x04\x00\x00\x00\x00"+l+noRing+noSwap+noParcel)
		noBody(t, "given: "+what, "\x06\x00\x00\x00\x00"+l+noRing+noSwap+noParcel)
		noBody(t, "exchanged: "+what, "\x0c\x00\x00\x00\x00\x00"+noRing+"\x00\x00\x00\x00"+l+"\x00"+noParcel)
		noBody(t, "handed off: "+what, "\x0e\x00\x00\x00\x00\x00"+noRing+noSwap+"\x00\x00\x00"+l+"\x00")
	}
}

// plainCell are a cell's bytes as it stands, of stores without texts and without fields within fields.
func plainCell(c api.Cell) string {
	b := binary.AppendUvarint(binary.AppendVarint(nil, int64(c.Kind)), uint64(len(c.Clock)))
	for _, d := range c.Clock {
		b = binary.AppendUvarint(binary.AppendUvarint(b, d.Actor), d.N)
	}
	b = binary.AppendUvarint(b, uint64(len(c.Store.Entries)))
	for _, e := range c.Store.Entries {
		b = append(binary.AppendUvarint(binary.AppendUvarint(b, e.Dot.Actor), e.Dot.N), 0, 0, 0)
	}
	b = binary.AppendUvarint(b, uint64(len(c.Store.Fields)))
	for _, f := range c.Store.Fields {
		b = append(append(binary.AppendVarint(b, int64(f.Kind)), byte(len(f.Name))), f.Name...)
		b = append(b, 0, 0)
	}
	return string(b)
}

func TestReadOfNoRings(t *testing.T) {
	one, two := "\x02\x02\x01", "\x04\x04\x01"
	for what, s := range map[string]string{
		"nothing":                "",
		"an owner too few":       "\x00" + noOwners[:14],
		"a byte behind":          "\x00" + noOwners + "\x00",
		"an empty member":        "\x01\x00\x00\x00" + noOwners,
		"node 8":                 "\x01\x10\x02\x01" + noOwners,
		"state 4":                "\x01\x02\x08\x01" + noOwners,
		"nodes that do not rise": "\x02" + two + one + noOwners,
		"a node twice":           "\x02" + one + one + noOwners,
		"an owner 8":             "\x00" + noOwners[:14] + "\x10\x00",
		"a needless byte":        "\x00" + noOwners[:15] + "\x80\x00",
	} {
		noBody(t, what, "\x0a\x00\x00\x00\x00\x00"+string(binary.AppendUvarint(nil, uint64(len(s))))+s+noSwap+noParcel)
		noBody(t, what+", where no ring should be", "\x02\x00\x00\x00\x00\x00"+string(binary.AppendUvarint(nil, uint64(len(s))))+s+noSwap+noParcel)
	}
}

func TestReadOfNoNumbers(t *testing.T) {
	long := strings.Repeat("\xff", 9)
	for what, body := range map[string]string{
		"nothing":                         "",
		"a Kind alone":                    "\x02",
		"a Kind with a needless byte":     "\x82\x00\x00\x00\x00\x00\x00" + noRing + noSwap + noParcel,
		"a Kind of 2^32 + 1":              "\x82\x80\x80\x80\x20\x00\x00\x00\x00\x00" + noRing + noSwap + noParcel,
		"an Ask with a needless byte":     "\x02\x80\x00\x00\x00\x00\x00" + noRing + noSwap + noParcel,
		"an Ask above 2^64 - 1":           "\x02" + long + "\x02\x00\x00\x00\x00" + noRing + noSwap + noParcel,
		"a Partition with a needless one": "\x02\x00\x82\x00\x00\x00\x00" + noRing + noSwap + noParcel,
		"a key with a needless byte":      "\x02\x00\x00\x81\x00k\x00\x00" + noRing + noSwap + noParcel,
		"an Err with a needless byte":     "\x04\x00\x00\x00\x82\x00\x00" + noRing + noSwap + noParcel,
		"a count with a needless byte":    "\x04\x00\x00\x00\x00\x80\x00" + noRing + noSwap + noParcel,
		"a ring with a needless byte":     "\x02\x00\x00\x00\x00\x00\x91" + noRing[1:] + noSwap + noParcel,
		"no ring's text":                  "\x02\x00\x00\x00\x00\x00" + noSwap + noParcel,
		"no swap":                         "\x02\x00\x00\x00\x00\x00" + noRing + noParcel,
		"no parcel":                       "\x02\x00\x00\x00\x00\x00" + noRing + noSwap,
		"a flag of 2":                     "\x0e\x00\x00\x00\x00\x00" + noRing + noSwap + "\x00\x00\x02\x00\x00",
		"a flag of 255":                   "\x0e\x00\x00\x00\x00\x00" + noRing + noSwap + "\x00\x00\xff\x00\x00",
	} {
		noBody(t, what, body)
	}
}

// A count that is more than there is.
func TestReadOfTooFew(t *testing.T) {
	ahead := "\x00\x00\x00\x00\x00"
	for _, n := range []uint64{1, 2, 5, 16, 1 << 14, 1 << 16, 1 << 31, 1 << 32, 1 << 62, 1<<63 - 1, 1 << 63, 1<<64 - 1} {
		count := string(binary.AppendUvarint(nil, n))
		for what, body := range map[string]string{
			"cells":        "\x04" + ahead[1:] + count + noRing + noSwap + noParcel,
			"a key":        "\x02\x00\x00" + count + "\x00\x00" + noRing + noSwap + noParcel,
			"a ring":       "\x0a" + ahead + count + noRing[1:13],
			"places":       "\x0c" + ahead + noRing + "\x00" + count + noSwap[2:] + noParcel,
			"sums":         "\x0c" + ahead + noRing + "\x00\x00" + count + noSwap[3:] + noParcel,
			"keys":         "\x0c" + ahead + noRing + "\x00\x00\x00" + count + noSwap[4:] + noParcel,
			"swap's cells": "\x0c" + ahead + noRing + "\x00\x00\x00\x00" + count + noSwap[5:] + noParcel,
			"wants":        "\x0c" + ahead + noRing + "\x00\x00\x00\x00\x00" + count + noParcel,
			"some cells":   "\x0e" + ahead + noRing + noSwap + "\x00\x00\x00" + count + "\x00",
			"cells' sums":  "\x0e" + ahead + noRing + noSwap + "\x00\x00\x00\x00" + count,
		} {
			noBody(t, fmt.Sprint(n, " ", what), body)
			noBody(t, fmt.Sprint(n, " ", what, ", and zeros"), body+strings.Repeat("\x00", 60000))
		}
	}
	for _, n := range fullest() {
		body := plainBody(n)
		for cut := range len(body) {
			noBody(t, "a beginning", body[:cut])
			sound(t, body[:cut]+body[cut+1:])
		}
	}
}

// times is a list of so many alike.
func times[T any](many int, x T) []T {
	var l []T
	for range many {
		l = append(l, x)
	}
	return l
}

// A count that is just what there is, of the shortest there are.
func TestReadOfManyShortOnes(t *testing.T) {
	for _, many := range []int{1, 2, 9, 10, 100, 1000} {
		for _, m := range []api.Swap{
			{Places: times(many, 0)}, {Sums: times(many, [32]byte{})}, {Keys: times(many, api.Sum{})},
			{Cells: times(many, keyed("", cell.New(1)))}, {Want: times(many, "")},
		} {
			n := api.Note{Kind: api.NoteSwap, Swap: m}
			reads(t, fmt.Sprint(many), plainFrame(plainBody(n)), n)
		}
		for _, p := range []api.Parcel{{Cells: times(many, keyed("", cell.New(1)))}, {Sums: times(many, api.Sum{})}} {
			n := api.Note{Kind: api.NoteParcel, Parcel: p}
			reads(t, fmt.Sprint(many), plainFrame(plainBody(n)), n)
		}
	}
}

// upTo are the bytes from 0 on, with steps between.
func upTo(last, step int) string {
	var b strings.Builder
	for i := 0; i <= last; i += step {
		b.WriteByte(byte(i))
	}
	return b.String()
}

// Each byte of the shortest bodies turned to each other one: at most places there may be no other one.
func TestEachByteOfTheShortest(t *testing.T) {
	number, partition := upTo(127, 1), upTo(14, 2)
	keys := map[int]string{0: "\x02\x04\x08\x0a\x0c\x0e", 1: number, 2: partition}
	owners := map[int]string{0: keys[0]}
	for p := range 8 {
		owners[8+2*p], owners[9+2*p] = partition, number
	}
	for kind, may := range map[int]map[int]string{
		api.NoteAsk:    keys,
		api.NoteTell:   {0: keys[0], 1: number, 2: partition, 4: number},
		api.NoteGive:   {0: "\x04\x06", 1: number, 2: partition, 8: "\x02\x04\x06\x08\x0a\x0c"},
		api.NoteTook:   {0: keys[0], 1: number, 2: partition, 4: number},
		api.NoteRing:   owners,
		api.NoteSwap:   {0: keys[0], 2: partition, 24: number},
		api.NoteParcel: {0: keys[0], 30: partition, 31: number, 32: "\x00\x01"},
	} {
		body := plainBody(shortest()[kind-1])
		for i := range len(body) {
			allowed, some := may[i]
			if !some {
				allowed = body[i : i+1]
			}
			for b := range 256 {
				one := string([]byte{byte(b)})
				if read := sound(t, body[:i]+one+body[i+1:]); read != strings.Contains(allowed, one) {
					t.Errorf("kind %d, byte %d as %d: %v", kind, i, b, read)
				}
			}
		}
	}
}

// Bytes that go deep, and cells that are many.
func TestReadOfDeepAndMany(t *testing.T) {
	deep := strings.Repeat("\x00\x01\x00\x00", 16000)
	c := "\x0c\x00" + deep
	noBody(t, "a deep cell", "\x04\x00\x00\x00\x00\x01\x00"+string(binary.AppendUvarint(nil, uint64(len(c))))+c+noRing+noSwap+noParcel)
	many := strings.Repeat("\x00\x00", 30000)
	noBody(t, "many cells of no bytes", "\x0e\x00\x00\x00\x00\x00"+noRing+noSwap+"\x00\x00\x00\xb0\xea\x01"+many+"\x00")
	n := api.Note{Kind: api.NoteParcel}
	for range 10000 {
		n.Parcel.Cells = append(n.Parcel.Cells, keyed("", cell.New(1)))
	}
	reads(t, "many cells", plainFrame(plainBody(n)), n)
}
