package hand_test

import (
	"fmt"
	"math/rand"
	"slices"
	"strings"
	"testing"

	"murmuration/api"
	"murmuration/cell"
	"murmuration/clock"
	"murmuration/files"
	"murmuration/hand"
	"murmuration/vnode"
)

func is(t *testing.T, what string, got, want any) {
	t.Helper()
	if g, w := fmt.Sprint(got), fmt.Sprint(want); g != w {
		t.Errorf("%s: %.600s, want %.600s", what, g, w)
	}
}

func ok(t *testing.T, l ...api.Errno) {
	t.Helper()
	for i, e := range l {
		if e != api.OK {
			t.Fatalf("call %d: %d", i, int(e))
		}
	}
}

func pick[T any](draw *rand.Rand, l ...T) T { return l[draw.Intn(len(l))] }

// Vnodes and cells

// onDisk is a node's vnode of partition 0, and its disk.
func onDisk(t *testing.T, node int) (*vnode.Vnode, *files.Disk) {
	t.Helper()
	d := files.New(api.MaxRoom)
	v, e := vnode.Open(d, node, 0)
	ok(t, e)
	return v, d
}

func opened(t *testing.T, node int) *vnode.Vnode {
	t.Helper()
	v, _ := onDisk(t, node)
	return v
}

// broken is a vnode that has x, and whose disk has lost its power.
func broken(t *testing.T) *vnode.Vnode {
	t.Helper()
	v, d := onDisk(t, 1)
	puts(t, v, "x", "1")
	shatter(t, v, d)
	return v
}

// shatter takes the power away, and has the vnode find that out.
func shatter(t *testing.T, v *vnode.Vnode, d *files.Disk) {
	t.Helper()
	d.Arm(0)
	if e := v.Join(keyed("\xff", object(7, "power"))); e != api.ErrPower || !v.Broken() {
		t.Fatalf("the power goes: %d", int(e))
	}
}

func put(s string) api.Update { return api.Update{Op: api.OpPut, S: s} }

func keyed(key string, c api.Cell) api.Keyed { return api.Keyed{Key: key, Cell: c} }

// puts puts texts at a key, side by side.
func puts(t *testing.T, v *vnode.Vnode, key string, texts ...string) api.Keyed {
	t.Helper()
	var c api.Cell
	for _, s := range texts {
		next, e := v.Update(key, api.KindObject, put(s))
		ok(t, e)
		c = next
	}
	return keyed(key, c)
}

// object is a cell in which a node put texts, none of which had seen another.
func object(node int, texts ...string) api.Cell {
	c := cell.New(api.KindObject)
	for _, s := range texts {
		c, _ = cell.Update(c, put(s), clock.Next(c.Clock, clock.Actor(node, 0, 1)))
	}
	return c
}

// sized is a right cell that has just so many bytes together with its key.
func sized(t *testing.T, key string, size int) api.Keyed {
	t.Helper()
	var texts []string
	for rest := size; rest > 20000; rest -= 19000 {
		texts = append(texts, strings.Repeat("x", 19000))
	}
	for last := 0; last <= 20000; {
		c := object(2, append(slices.Clone(texts), strings.Repeat("y", last))...)
		missing := size - len(key) - len(cell.Bytes(c))
		if missing == 0 {
			return keyed(key, c)
		}
		// A longer text has its length in up to three bytes: the last ones are tried one by one.
		last += max(1, missing-3)
	}
	t.Fatalf("no cell has %d bytes", size)
	return api.Keyed{}
}

func shownCell(c api.Cell) string {
	return fmt.Sprintf("%d %v %v", c.Kind, c.Clock, c.Store)
}

// picture is all that a vnode has.
func picture(v *vnode.Vnode) string {
	var b strings.Builder
	for _, k := range v.Fold() {
		fmt.Fprintf(&b, "%q %s ", k.Key, shownCell(k.Cell))
	}
	fmt.Fprintf(&b, "%d %x %v", v.Len(), v.Tree().Root(), v.Broken())
	return b.String()
}

// names are a vnode's keys.
func names(v *vnode.Vnode) string {
	var l []string
	for _, k := range v.Fold() {
		l = append(l, k.Key)
	}
	return strings.Join(l, " ")
}

// Parcels and ledgers

func sumOf(k api.Keyed) api.Sum { return api.Sum{Key: k.Key, Sum: cell.Sum(k.Cell)} }

func sumsOf(l ...api.Keyed) []api.Sum {
	var sums []api.Sum
	for _, k := range l {
		sums = append(sums, sumOf(k))
	}
	return sums
}

func shownSums(l []api.Sum) string {
	var b strings.Builder
	for _, s := range l {
		fmt.Fprintf(&b, "%q %x ", s.Key, s.Sum)
	}
	return b.String()
}

// shown is a parcel just as it stands, but that a nil list is an empty one.
func shown(p api.Parcel) string {
	var b strings.Builder
	fmt.Fprintf(&b, "%d.%d back %v cells [", p.Partition, p.Number, p.Back)
	for _, k := range p.Cells {
		fmt.Fprintf(&b, "%q %s ", k.Key, shownCell(k.Cell))
	}
	fmt.Fprintf(&b, "] sums [%s]", shownSums(p.Sums))
	return b.String()
}

func tells(t *testing.T, what string, got, want api.Parcel) {
	t.Helper()
	is(t, what, shown(got), shown(want))
}

// open says what a ledger still has of a partition.
func open(t *testing.T, what string, g *hand.Ledger, partition int, want ...api.Keyed) {
	t.Helper()
	is(t, what+": Open", shownSums(g.Open(partition)), shownSums(sumsOf(want...)))
}

// packs says what is packed.
func packs(t *testing.T, what string, v *vnode.Vnode, g *hand.Ledger, partition, number, most int, want ...api.Keyed) api.Parcel {
	t.Helper()
	p, some := hand.Pack(v, g, partition, number, most)
	is(t, what+": some", some, len(want) > 0)
	if len(want) == 0 {
		tells(t, what, p, api.Parcel{})
	} else {
		tells(t, what, p, api.Parcel{Partition: partition, Number: number, Cells: want})
	}
	return p
}

// takes has a parcel taken without an error.
func takes(t *testing.T, v *vnode.Vnode, g *hand.Ledger, p api.Parcel) api.Parcel {
	t.Helper()
	back, e := hand.Take(v, g, p)
	ok(t, e)
	return back
}

// lets says how many are let go, and the error.
func lets(t *testing.T, what string, v *vnode.Vnode, g *hand.Ledger, p api.Parcel, n int, want api.Errno) {
	t.Helper()
	got, e := hand.Let(v, g, p)
	is(t, what, fmt.Sprint(got, int(e)), fmt.Sprint(n, int(want)))
}
