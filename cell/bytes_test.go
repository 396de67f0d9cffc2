package cell_test

import (
	"crypto/sha256"
	"encoding/binary"
	"math/rand"
	"strings"
	"testing"

	"murmuration/api"
	"murmuration/cell"
)

// laid are a cell's bytes just as it stands, by the library's means.
func laid(c api.Cell) string {
	b := binary.AppendVarint(nil, int64(c.Kind))
	b = binary.AppendUvarint(b, uint64(len(c.Clock)))
	for _, d := range c.Clock {
		b = binary.AppendUvarint(binary.AppendUvarint(b, d.Actor), d.N)
	}
	return string(laidStore(b, c.Store))
}

func laidStore(b []byte, s api.Store) []byte {
	text := func(s string) { b = append(binary.AppendUvarint(b, uint64(len(s))), s...) }
	b = binary.AppendUvarint(b, uint64(len(s.Entries)))
	for _, e := range s.Entries {
		b = binary.AppendUvarint(binary.AppendUvarint(b, e.Dot.Actor), e.Dot.N)
		b = binary.AppendVarint(b, e.N)
		text(e.S)
		b = binary.AppendUvarint(b, e.T)
	}
	b = binary.AppendUvarint(b, uint64(len(s.Fields)))
	for _, f := range s.Fields {
		b = binary.AppendVarint(b, int64(f.Kind))
		text(f.Name)
		b = laidStore(b, f.Store)
	}
	return b
}

func unread(t *testing.T, what, s string) {
	t.Helper()
	c, e := cell.Read(s)
	if e != api.ErrForm || c.Kind != 0 || c.Clock != nil || c.Store.Entries != nil || c.Store.Fields != nil {
		t.Errorf("Read of %s, %x: %s, %d", what, s, told(c), int(e))
	}
}

func TestBytes(t *testing.T) {
	for _, x := range []struct {
		c    api.Cell
		want string
	}{
		{of(0, ""), "\x00\x00\x00\x00"},
		{of(1, ""), "\x02\x00\x00\x00"},
		{of(6, "1:2 300:1"), "\x0c\x02\x01\x02\xac\x02\x01\x00\x00"},
		{of(-1, ""), "\x01\x00\x00\x00"},
		{of(64, ""), "\x80\x01\x00\x00\x00"},
		{of(1, "1:3", entry("1.3", "c")), "\x02\x01\x01\x03\x01\x01\x03\x00\x01c\x00\x00"},
		{of(4, "2:1", field(0, "xy", entry("2.1", -1, at(200)))), "\x08\x01\x02\x01\x00\x01\x00\x02xy\x01\x02\x01\x01\x00\xc8\x01\x00"},
	} {
		if got := cell.Bytes(x.c); got != x.want {
			t.Errorf("Bytes(%s): %x, want %x", told(x.c), got, x.want)
		}
	}
	for _, kind := range append([]int{1, 2, 3, 4, 5, 6}, otherKinds...) {
		for _, c := range rightCells(kind) {
			if got, want := cell.Bytes(c), laid(c); got != want {
				t.Errorf("Bytes(%s): %x, want %x", told(c), got, want)
			}
			if cell.Sum(c) != sha256.Sum256([]byte(laid(c))) {
				t.Errorf("Sum(%s) is another one", told(c))
			}
		}
	}
}

func TestBytesAreOfTheNorm(t *testing.T) {
	wrong := of(4, "2:0 5:1 1:1 1:2 5:3", entry("9.0"), entry("5.1"), entry("1.1"), field(0, "y", entry("5.3"), entry("5.3", 2)), field(0, "e"), field(0, "x", entry("1.2")), field(0, "x", entry("1.1")))
	norm := of(4, "1:2 5:3", entry("1.1"), entry("5.1"), field(0, "x", entry("1.1"), entry("1.2")), field(0, "y", entry("5.3", 2)))
	if got := cell.Bytes(wrong); got != laid(norm) {
		t.Errorf("Bytes: %x, want %x", got, laid(norm))
	}
	if cell.Sum(wrong) != cell.Sum(norm) {
		t.Error("Sum is another one")
	}
	if got := cell.Bytes(of(1, "", entry("1.1"))); got != laid(of(1, "", entry("1.1"))) {
		t.Errorf("Bytes of one that is not right: %x", got)
	}
}

func TestRead(t *testing.T) {
	for kind := api.KindObject; kind <= api.KindMap; kind++ {
		for _, c := range rightCells(kind) {
			got, e := cell.Read(laid(c))
			is(t, "Read", got, told(c))
			if e != api.OK || !cell.Right(got) || !cell.Same(got, c) {
				t.Errorf("Read of %s: %d", told(c), int(e))
			}
			whole := laid(c)
			for cut := range len(whole) {
				unread(t, "a beginning", whole[:cut])
			}
			for b := range 256 {
				unread(t, "a byte more", whole+string([]byte{byte(b)}))
				unread(t, "a byte ahead", string([]byte{byte(b)})+whole)
			}
			unread(t, "one twice", whole+whole)
		}
	}
}

func TestReadOfNoCell(t *testing.T) {
	unread(t, "nothing", "")
	unread(t, "zeros", strings.Repeat("\x00", 1000))
	unread(t, "the greatest bytes", strings.Repeat("\xff", 1000))
	for what, c := range unright() {
		unread(t, what, laid(c))
	}
	for _, kind := range otherKinds {
		for _, c := range rightCells(kind) {
			unread(t, "another kind", laid(c))
		}
	}
	for what, s := range map[string]string{
		"a Kind with a needless byte":           "\x82\x00\x00\x00\x00",
		"a Kind above 2^64 - 1":                 strings.Repeat("\xff", 9) + "\x02\x00\x00\x00",
		"a Clock's count with a needless byte":  "\x02\x80\x00\x00\x00",
		"an actor with a needless byte":         "\x02\x01\x81\x00\x01\x00\x00",
		"an N with a needless byte":             "\x02\x01\x01\x81\x00\x00\x00",
		"an N above 2^64 - 1":                   "\x02\x01\x01" + strings.Repeat("\xff", 9) + "\x02\x00\x00",
		"an entry count with a needless byte":   "\x02\x00\x80\x00\x00",
		"a field count with a needless byte":    "\x02\x00\x00\x80\x00",
		"more dots than there are":              "\x02\x02\x01\x01\x00\x00",
		"fewer dots than there are":             "\x02\x01\x01\x01\x02\x01\x00\x00",
		"far more dots than there are":          "\x02\xff\xff\xff\xff\x0f\x01\x01\x00\x00",
		"the greatest count of dots":            "\x02" + strings.Repeat("\xff", 9) + "\x01\x01\x01\x00\x00",
		"more entries than there are":           "\x02\x01\x01\x01\x02\x01\x01\x00\x00\x00\x00",
		"the greatest count of entries":         "\x02\x00" + strings.Repeat("\xff", 9) + "\x01\x00",
		"the greatest count of fields":          "\x02\x00\x00" + strings.Repeat("\xff", 9) + "\x01",
		"the greatest length of a text":         "\x02\x01\x01\x01\x01\x01\x01\x00" + strings.Repeat("\xff", 9) + "\x01\x00\x00",
		"a text that is longer than the bytes":  "\x02\x01\x01\x01\x01\x01\x01\x00\x05c\x00\x00",
		"a Kind alone":                          "\x02",
		"a Kind and a Clock":                    "\x02\x01\x01\x01",
		"fields as deep as the bytes":           "\x02\x00" + strings.Repeat("\x00\x01\x00\x00", 1000),
		"a Clock behind the Store":              "\x02\x01\x01\x01\x00\x00\x00\x01\x01\x01",
		"an entry of another actor, not seen":   "\x02\x01\x01\x01\x01\x02\x01\x00\x00\x00\x00",
		"the example with a Clock that is less": "\x02\x01\x01\x02\x01\x01\x03\x00\x01\x63\x00\x00",
	} {
		unread(t, what, s)
	}
}

// sound says that bytes are read only if they are just those of a right cell.
func sound(t *testing.T, s string) bool {
	t.Helper()
	c, e := cell.Read(s)
	if e != api.OK {
		unread(t, "no cell", s)
		return false
	}
	if laid(c) != s || !cell.Right(c) {
		t.Errorf("Read(%x): %s", s, told(c))
	}
	return true
}

func TestBytesWithOneTurned(t *testing.T) {
	for _, c := range rightCells(api.KindMap) {
		whole := laid(c)
		for i := range len(whole) {
			for b := range 256 {
				sound(t, whole[:i]+string([]byte{byte(b)})+whole[i+1:])
			}
			sound(t, whole[:i]+whole[i+1:])
		}
	}
	draw := rand.New(rand.NewSource(1))
	for range 10000 {
		s := []byte(cell.Bytes(drawnRight(draw, 4)))
		for range 1 + draw.Intn(3) {
			s[draw.Intn(len(s))] = byte(draw.Intn(256) >> draw.Intn(8))
		}
		sound(t, string(s))
	}
}

// smallCells are all right ones whose bytes are at most 11, each of them at most 2.
func smallCells() map[string]bool {
	var l []api.Cell
	var dots []api.Dot
	for actor := range uint64(3) {
		dots = append(dots, api.Dot{Actor: actor, N: 1}, api.Dot{Actor: actor, N: 2})
	}
	l = append(l, of(1, ""))
	for _, d := range dots {
		l = append(l, api.Cell{Kind: 1, Clock: api.Clock{d}})
		for _, more := range dots {
			if more.Actor > d.Actor {
				l = append(l, api.Cell{Kind: 1, Clock: api.Clock{d, more}})
			}
			for i := range 9 {
				if more.Actor == d.Actor && more.N <= d.N {
					e := api.Entry{Dot: more, N: int64(i%3) - 1, T: uint64(i / 3)}
					l = append(l, api.Cell{Kind: 1, Clock: api.Clock{d}, Store: api.Store{Entries: []api.Entry{e}}})
				}
			}
		}
	}
	all := map[string]bool{}
	for _, c := range l {
		all[laid(c)] = true
	}
	return all
}

func TestAllShortBytes(t *testing.T) {
	all := smallCells()
	found := 0
	texts := []string{""}
	for len(texts[0]) <= 11 {
		var longer []string
		for _, s := range texts {
			if is := sound(t, s); is != all[s] {
				t.Errorf("Read(%x) is a cell: %v", s, is)
			} else if is {
				found++
			}
			longer = append(longer, s+"\x00", s+"\x01", s+"\x02")
		}
		texts = longer
	}
	if found != len(all) || found != 100 {
		t.Errorf("%d of %d cells were read", found, len(all))
	}
}
