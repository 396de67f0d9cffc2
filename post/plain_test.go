package post_test

import (
	"bytes"
	"encoding/binary"
	"hash/crc32"
	"math/rand"
	"reflect"
	"slices"
	"strings"
	"testing"

	"murmuration/api"
	"murmuration/cell"
	"murmuration/gossip"
	"murmuration/post"
)

// The chapter's words once more, by the library's means

// plainBody is a note's body, right or not.
func plainBody(n api.Note) string {
	var b []byte
	num := func(n int) { b = binary.AppendUvarint(b, uint64(n)) }
	whole := func(l ...int) {
		for _, n := range l {
			b = binary.AppendVarint(b, int64(n))
		}
	}
	text := func(s string) { num(len(s)); b = append(b, s...) }
	cells := func(l []api.Keyed) {
		num(len(l))
		for _, k := range l {
			text(k.Key)
			text(cell.Bytes(k.Cell))
		}
	}
	sums := func(l []api.Sum) {
		num(len(l))
		for _, k := range l {
			text(k.Key)
			b = append(b, k.Sum[:]...)
		}
	}
	whole(n.Kind, n.Ask, n.Partition)
	text(n.Key)
	whole(int(n.Err))
	cells(n.Cells)
	text(gossip.Bytes(n.Ring))
	whole(n.Swap.Step)
	num(len(n.Swap.Places))
	whole(n.Swap.Places...)
	num(len(n.Swap.Sums))
	for _, s := range n.Swap.Sums {
		b = append(b, s[:]...)
	}
	sums(n.Swap.Keys)
	cells(n.Swap.Cells)
	num(len(n.Swap.Want))
	for _, s := range n.Swap.Want {
		text(s)
	}
	whole(n.Parcel.Partition, n.Parcel.Number)
	b = append(b, map[bool]byte{true: 1}[n.Parcel.Back])
	cells(n.Parcel.Cells)
	sums(n.Parcel.Sums)
	return string(b)
}

// plainFrame is a body's, also of one that is too long.
func plainFrame(body string) string {
	b := append(binary.AppendUvarint(nil, uint64(len(body))), body...)
	return string(binary.BigEndian.AppendUint32(b, crc32.ChecksumIEEE([]byte(body))))
}

// belongs is what the chapter has in brackets.
var belongs = map[int]string{
	api.NoteAsk:    "Ask Partition Key",
	api.NoteTell:   "Ask Partition Key Err Cells",
	api.NoteGive:   "Ask Partition Key Cells",
	api.NoteTook:   "Ask Partition Key Err",
	api.NoteRing:   "Ring",
	api.NoteSwap:   "Partition Swap",
	api.NoteParcel: "Parcel",
}

func plainRight(n api.Note) bool {
	own, known := belongs[n.Kind]
	if !known {
		return false
	}
	v := reflect.ValueOf(n)
	for i := range v.NumField() {
		name := v.Type().Field(i).Name
		if name != "Kind" && !slices.Contains(strings.Fields(own), name) && !nothing(v.Field(i)) {
			return false
		}
	}
	for _, k := range slices.Concat(n.Cells, n.Swap.Cells, n.Parcel.Cells) {
		if !cell.Right(k.Cell) {
			return false
		}
	}
	for _, p := range []int{n.Partition, n.Parcel.Partition} {
		if p < 0 || p > 7 {
			return false
		}
	}
	many := len(n.Cells)
	return shown(api.Note{Ring: n.Ring}) == shown(api.Note{Ring: gossip.Norm(n.Ring)}) &&
		(n.Kind != api.NoteTell || many == 0 || many == 1) && (n.Kind != api.NoteGive || many == 1)
}

// nothing says that all of a value is empty or zero.
func nothing(v reflect.Value) bool {
	switch v.Kind() {
	case reflect.Slice:
		return v.Len() == 0
	case reflect.Struct:
		for i := range v.NumField() {
			if !nothing(v.Field(i)) {
				return false
			}
		}
		return true
	}
	return v.IsZero()
}

// normed has its cells' and its ring's Norms, whose bytes stand in the body.
func normed(n api.Note) api.Note {
	n.Ring = gossip.Norm(n.Ring)
	for _, l := range []*[]api.Keyed{&n.Cells, &n.Swap.Cells, &n.Parcel.Cells} {
		var norms []api.Keyed
		for _, k := range *l {
			norms = append(norms, keyed(k.Key, cell.Join(k.Cell, k.Cell)))
		}
		*l = norms
	}
	return n
}

// Notes that are drawn

// They are made once, as there are many draws.
var (
	anyCells   = rightCells()
	anyChanges = changes()
)

func pick[T any](draw *rand.Rand, l ...T) T { return l[draw.Intn(len(l))] }

func some[T any](draw *rand.Rand, one func(*rand.Rand) T) []T {
	var l []T
	for range draw.Intn(4) {
		l = append(l, one(draw))
	}
	return l
}

func drawnInt(draw *rand.Rand) int {
	return pick(draw, 0, 1, -1, 3, 63, 64, -64, -65, 300, 1<<32+1, most, least)
}

func drawnPartition(draw *rand.Rand) int { return draw.Intn(8) }

func drawnText(draw *rand.Rand) string {
	return pick(draw, "", "k", "\x00", "\xff\xfe", "key", strings.Repeat("x", 130))
}

func drawnSum(draw *rand.Rand) [32]byte { return pick(draw, [32]byte{}, sum("a"), sum("b")) }

func drawnKey(draw *rand.Rand) api.Sum { return api.Sum{Key: drawnText(draw), Sum: drawnSum(draw)} }

func drawnCell(draw *rand.Rand) api.Keyed { return keyed(drawnText(draw), pick(draw, anyCells...)) }

func drawnRing(draw *rand.Rand) api.Ring {
	r := api.Ring{}
	for node := 1; node <= 7; node++ {
		if draw.Intn(2) == 0 {
			r.Members = append(r.Members, api.Member{Node: node, State: 1 + draw.Intn(3), V: uint64(drawnInt(draw))})
		}
	}
	for p := range r.Owners {
		r.Owners[p] = api.Owner{Node: draw.Intn(8), V: uint64(drawnInt(draw))}
	}
	return r
}

func drawnSwap(draw *rand.Rand) api.Swap {
	return api.Swap{
		Step: drawnInt(draw), Places: some(draw, drawnInt), Sums: some(draw, drawnSum), Keys: some(draw, drawnKey),
		Cells: some(draw, drawnCell), Want: some(draw, drawnText),
	}
}

func drawnParcel(draw *rand.Rand) api.Parcel {
	return api.Parcel{
		Partition: drawnPartition(draw), Number: drawnInt(draw), Back: draw.Intn(2) == 0,
		Cells: some(draw, drawnCell), Sums: some(draw, drawnKey),
	}
}

// drawnRight is a right note.
func drawnRight(draw *rand.Rand) api.Note {
	n := api.Note{Kind: 1 + draw.Intn(7)}
	for _, name := range strings.Fields(belongs[n.Kind]) {
		switch name {
		case "Ask":
			n.Ask = drawnInt(draw)
		case "Partition":
			n.Partition = drawnPartition(draw)
		case "Key":
			n.Key = drawnText(draw)
		case "Err":
			n.Err = api.Errno(drawnInt(draw))
		case "Cells":
			n.Cells = []api.Keyed{drawnCell(draw)}[:max(draw.Intn(2), n.Kind-2)]
		case "Ring":
			n.Ring = drawnRing(draw)
		case "Swap":
			n.Swap = drawnSwap(draw)
		case "Parcel":
			n.Parcel = drawnParcel(draw)
		}
	}
	return n
}

// drawn is a right note in which something may be another one.
func drawn(draw *rand.Rand) api.Note {
	n := drawnRight(draw)
	for range draw.Intn(3) {
		n = pick(draw, anyChanges...).done(n)
	}
	return n
}

// writes holds Write, Right and Read against the chapter's words.
func writes(t *testing.T, n api.Note) (right, read bool) {
	t.Helper()
	right = plainRight(n)
	if post.Right(n) != right {
		t.Fatalf("Right of %s: %v", shown(n), !right)
	}
	body := plainBody(n)
	s, e := post.Write(n)
	switch {
	case !right && (s != "" || e != api.ErrArg), right && (s != plainFrame(body) || e != api.OK):
		t.Fatalf("Write of %s: %x, %d", shown(n), s, int(e))
	}
	norm := normed(n)
	read = plainRight(norm)
	got, e := post.Read(plainFrame(body))
	switch {
	case read && (e != api.OK || shown(got) != shown(norm)), !read && (e != api.ErrForm || !reflect.DeepEqual(got, api.Note{})):
		t.Fatalf("Read of what is %s: %s, %d", shown(n), shown(got), int(e))
	}
	return right, read
}

func TestDrawnNotes(t *testing.T) {
	draw := rand.New(rand.NewSource(19))
	right, read := 0, 0
	for range 40000 {
		a, b := writes(t, drawn(draw))
		if a {
			right++
		}
		if b {
			read++
		}
	}
	if right < 12000 || right > 18000 || read < right+500 {
		t.Errorf("%d were right, %d were read", right, read)
	}
}

func TestDrawnPairs(t *testing.T) {
	draw := rand.New(rand.NewSource(20))
	same := 0
	for range 20000 {
		a := drawn(draw)
		b := pick(draw, anyChanges...).done(a)
		if draw.Intn(3) == 0 {
			b = normed(a)
		}
		want := plainBody(a) == plainBody(b)
		if post.Same(a, b) != want || post.Same(b, a) != want || !post.Same(a, a) {
			t.Fatalf("Same of %s and %s", shown(a), shown(b))
		}
		if want {
			same++
		}
	}
	if same < 5000 || same > 15000 {
		t.Errorf("%d pairs were the same", same)
	}
}

// sound says that a body is read only if it is just that of a right note.
func sound(t *testing.T, body string) bool {
	t.Helper()
	n, e := post.Read(plainFrame(body))
	if e == api.OK {
		if !plainRight(n) || plainBody(n) != body {
			t.Fatalf("Read of %x: %s", body, shown(n))
		}
		return true
	}
	if e != api.ErrForm || !reflect.DeepEqual(n, api.Note{}) {
		t.Fatalf("Read of %x: %s, %d", body, shown(n), int(e))
	}
	return false
}

func TestBodiesWithSomeTurned(t *testing.T) {
	draw := rand.New(rand.NewSource(21))
	read := 0
	for range 60000 {
		b := []byte(plainBody(drawnRight(draw)))
		for range 1 + draw.Intn(2) {
			b[draw.Intn(len(b))] = byte(draw.Intn(256) >> draw.Intn(8))
		}
		if i := draw.Intn(len(b)); draw.Intn(4) == 0 {
			b = slices.Insert(b, i, byte(draw.Intn(3)))
		} else if draw.Intn(4) == 0 {
			b = slices.Delete(b, i, min(len(b), i+1+draw.Intn(3)))
		}
		if sound(t, string(b)) {
			read++
		}
	}
	if read < 10000 || read > 40000 {
		t.Errorf("%d were read", read)
	}
}

func TestDrawnBytes(t *testing.T) {
	draw := rand.New(rand.NewSource(22))
	for range 30000 {
		b := bytes.Repeat([]byte{0}, draw.Intn(60))
		for i := range b {
			b[i] = byte(draw.Intn(256) >> draw.Intn(9))
		}
		sound(t, string(b))
	}
}
