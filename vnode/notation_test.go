package vnode_test

import (
	"encoding/binary"
	"fmt"
	"math"
	"slices"
	"strconv"
	"strings"
	"testing"

	"murmuration/api"
	"murmuration/cask"
	"murmuration/cell"
	"murmuration/clock"
	"murmuration/files"
	"murmuration/tree"
	"murmuration/vnode"
)

const most = math.MaxUint64

func is(t *testing.T, what string, got, want any) {
	t.Helper()
	if g, w := fmt.Sprint(got), fmt.Sprint(want); g != w {
		t.Errorf("%s: %.300s, want %.300s", what, g, w)
	}
}

func said(t *testing.T, what string, got, want api.Errno) {
	t.Helper()
	if got != want {
		t.Errorf("%s: %d, want %d", what, int(got), int(want))
	}
}

func ok(t *testing.T, l ...api.Errno) {
	t.Helper()
	for i, e := range l {
		said(t, fmt.Sprintf("call %d", i), e, api.OK)
	}
}

func large() *files.Disk { return files.New(api.MaxRoom) }

// without is a disk whose power has gone.
func without(t *testing.T, d *files.Disk) {
	t.Helper()
	d.Arm(0)
	said(t, "the power goes", d.Append("power"), api.ErrPower)
}

func opened(t *testing.T, d *files.Disk, node, partition int) *vnode.Vnode {
	t.Helper()
	v, e := vnode.Open(d, node, partition)
	if v == nil || e != api.OK {
		t.Fatalf("Open(%d, %d): %v, %d", node, partition, v != nil, int(e))
	}
	return v
}

// fresh is node 1's vnode of partition 3 on a disk of its own.
func fresh(t *testing.T) (*vnode.Vnode, *files.Disk) {
	t.Helper()
	d := large()
	return opened(t, d, 1, 3), d
}

func refused(t *testing.T, what string, d *files.Disk, node, partition int, want api.Errno) {
	t.Helper()
	if v, e := vnode.Open(d, node, partition); v != nil || e != want {
		t.Errorf("%s: Open(%d, %d): %v, %d, want none, %d", what, node, partition, v != nil, int(e), int(want))
	}
}

// did says how many steps of the disk some calls take.
func did(t *testing.T, what string, d *files.Disk, want int, calls func()) {
	t.Helper()
	ahead := d.Steps()
	calls()
	if got := d.Steps() - ahead; got != want {
		t.Errorf("%s: %d steps, want %d", what, got, want)
	}
}

func lists(t *testing.T, what string, d *files.Disk, want ...string) {
	t.Helper()
	if got := d.List(""); !slices.Equal(got, want) {
		t.Errorf("%s: %q, want %q", what, got, want)
	}
}

// onDisk is all that lies there.
func onDisk(d *files.Disk) string {
	var b strings.Builder
	for _, name := range d.List("") {
		s, e := d.Read(name)
		fmt.Fprintf(&b, "%s %d %q\n", name, int(e), s)
	}
	return b.String()
}

// copied is a disk with the same files, all firm.
func copied(t *testing.T, d *files.Disk) *files.Disk {
	t.Helper()
	x := large()
	for _, name := range d.List("") {
		s, e := d.Read(name)
		ok(t, e, x.Append(name, s), x.Sync(name))
	}
	return x
}

// Values, by the library's means

func text(s string) string {
	return string(binary.AppendUvarint(nil, uint64(len(s)))) + s
}

func value(epoch uint64, c api.Cell) string {
	return string(binary.AppendUvarint(nil, epoch)) + text(cell.Bytes(c))
}

// laid is a disk with these keys and values in the cask of partition 3.
func laid(t *testing.T, pairs ...string) *files.Disk {
	t.Helper()
	d := large()
	c, e := cask.Open(d, "p3")
	ok(t, e)
	for pair := range slices.Chunk(pairs, 2) {
		ok(t, c.Put(pair[0], pair[1]))
	}
	ok(t, c.Sync())
	return d
}

// lies says what value of a key stands in the files of partition 3; none, if it is empty.
func lies(t *testing.T, what string, d *files.Disk, key, want string) {
	t.Helper()
	c, e := cask.Open(copied(t, d), "p3")
	ok(t, e)
	if got, _ := c.Get(key); got != want {
		t.Errorf("%s: the value of %.20q: %.60q, want %.60q", what, key, got, want)
	}
}

// Cells

func actor(epoch int) uint64 { return clock.Actor(1, 3, epoch) }

// shownDot has the actor in its parts: node/partition/epoch.
func shownDot(d api.Dot, between string) string {
	n, p, epoch := clock.Parts(d.Actor)
	return fmt.Sprintf("%d/%d/%d%s%d", n, p, epoch, between, d.N)
}

// shown is a cell just as it stands, but that a nil list is an empty one: Kind, [Clock], {Store}.
func shown(c api.Cell) string {
	var l []string
	for _, d := range c.Clock {
		l = append(l, shownDot(d, ":"))
	}
	return fmt.Sprintf("%d [%s] %s", c.Kind, strings.Join(l, " "), shownStore(c.Store))
}

func shownStore(s api.Store) string {
	var l []string
	for _, e := range s.Entries {
		word := shownDot(e.Dot, ".")
		if e.N != 0 {
			word += fmt.Sprintf("%+d", e.N)
		}
		if e.S != "" {
			word += strconv.Quote(e.S)
		}
		if e.T != 0 {
			word += fmt.Sprintf("@%d", e.T)
		}
		l = append(l, word)
	}
	for _, f := range s.Fields {
		l = append(l, fmt.Sprintf("%d%q:%s", f.Kind, f.Name, shownStore(f.Store)))
	}
	return "{" + strings.Join(l, " ") + "}"
}

func keyed(key string, c api.Cell) api.Keyed { return api.Keyed{Key: key, Cell: c} }

// elsewhere is a cell that another node made by some updates, each by the next dot of its own.
func elsewhere(t *testing.T, node, kind int, l ...api.Update) api.Cell {
	t.Helper()
	c := cell.New(kind)
	for _, u := range l {
		next, e := cell.Update(c, u, clock.Next(c.Clock, clock.Actor(node, 3, 1)))
		ok(t, e)
		c = next
	}
	return c
}

// updated says that an update is done, and what cell comes of it.
func updated(t *testing.T, v *vnode.Vnode, key string, kind int, u api.Update, want string, seen ...api.Clock) api.Cell {
	t.Helper()
	c, e := v.Update(key, kind, u, seen...)
	if shown(c) != want || e != api.OK {
		t.Errorf("Update(%.20q, %d, %d): %.200s, %d, want %.200s", key, kind, u.Op, shown(c), int(e), want)
	}
	return c
}

// fails says that an update is refused, and nothing else is told.
func fails(t *testing.T, what string, v *vnode.Vnode, key string, kind int, u api.Update, want api.Errno, seen ...api.Clock) {
	t.Helper()
	if c, e := v.Update(key, kind, u, seen...); shown(c) != "0 [] {}" || e != want {
		t.Errorf("%s: %.100s, %d, want nothing, %d", what, shown(c), int(e), int(want))
	}
}

func gets(t *testing.T, what string, v *vnode.Vnode, key, want string, errno api.Errno) {
	t.Helper()
	if c, e := v.Get(key); shown(c) != want || e != errno {
		t.Errorf("%s: Get(%.20q): %.200s, %d, want %.200s, %d", what, key, shown(c), int(e), want, int(errno))
	}
}

// picture is all that a vnode tells but its errors.
func picture(v *vnode.Vnode) string {
	var b strings.Builder
	for _, k := range v.Fold() {
		fmt.Fprintf(&b, "%q %q ", k.Key, cell.Bytes(k.Cell))
	}
	fmt.Fprintf(&b, "%d %x %d %s %v", v.Len(), v.Tree().Root(), v.Tree().Len(), shownDot(v.Minted(), "."), v.Broken())
	return b.String()
}

// has says all keys, each with its cell.
func has(t *testing.T, what string, v *vnode.Vnode, want ...api.Keyed) {
	t.Helper()
	var b strings.Builder
	leaves := tree.New()
	for _, k := range want {
		fmt.Fprintf(&b, "%q %q ", k.Key, cell.Bytes(k.Cell))
		leaves.Put(k.Key, cell.Sum(k.Cell))
		if !v.Broken() {
			gets(t, what, v, k.Key, shown(k.Cell), api.OK)
		}
	}
	fmt.Fprintf(&b, "%d %x %d %s %v", len(want), leaves.Root(), len(want), shownDot(v.Minted(), "."), v.Broken())
	if got := picture(v); got != b.String() {
		t.Errorf("%s: %.400s, want %.400s", what, got, b.String())
	}
}

// stays says that some calls change nothing that is told.
func stays(t *testing.T, what string, v *vnode.Vnode, calls func()) {
	t.Helper()
	was := picture(v)
	calls()
	if got := picture(v); got != was {
		t.Errorf("%s: %.300s, want %.300s", what, got, was)
	}
}

// Updates

func op(o int) api.Update        { return api.Update{Op: o} }
func put(s string) api.Update    { return api.Update{Op: api.OpPut, S: s} }
func add(n int64) api.Update     { return api.Update{Op: api.OpAdd, N: n} }
func insert(s string) api.Update { return api.Update{Op: api.OpInsert, S: s} }
func remove(s string) api.Update { return api.Update{Op: api.OpRemove, S: s} }
func assign(s string, at uint64) api.Update {
	return api.Update{Op: api.OpAssign, S: s, T: at}
}
func in(u api.Update, path ...api.Field) api.Update {
	u.Path = path
	return u
}

func long(size int) string { return strings.Repeat("x", size) }
