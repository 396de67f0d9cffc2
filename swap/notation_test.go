package swap_test

import (
	"crypto/sha256"
	"fmt"
	"slices"
	"strconv"
	"strings"
	"testing"

	"murmuration/api"
	"murmuration/cell"
	"murmuration/clock"
	"murmuration/files"
	"murmuration/tree"
	"murmuration/vnode"
)

func is(t *testing.T, what string, got, want any) {
	t.Helper()
	if g, w := fmt.Sprint(got), fmt.Sprint(want); g != w {
		t.Errorf("%s: %.600s, want %.600s", what, g, w)
	}
}

func ok(t *testing.T, l ...api.Errno) {
	t.Helper()
	for i, e := range l {
		if e != api.OK {
			t.Fatalf("call %d: %d", i, int(e))
		}
	}
}

// Sums and trees

func sum(s string) [32]byte { return sha256.Sum256([]byte(s)) }

// sums are keys with the sums of what stands behind each: "a 1 b 2".
func sums(words string) []api.Sum {
	var l []api.Sum
	for pair := range slices.Chunk(strings.Fields(words), 2) {
		l = append(l, api.Sum{Key: pair[0], Sum: sum(pair[1])})
	}
	return l
}

func planted(words string) *tree.Tree {
	t := tree.New()
	for _, k := range sums(words) {
		t.Put(k.Key, k.Sum)
	}
	return t
}

// keysAt are the first n of the keys k0, k1 and so on that lie in a leaf, rising.
func keysAt(leaf, n int) []string {
	var l []string
	for i := 0; len(l) < n; i++ {
		if key := "k" + strconv.Itoa(i); int(sum(key)[0]) == leaf {
			l = append(l, key)
		}
	}
	slices.Sort(l)
	return l
}

// Steps

// shown is a step just as it stands, but that a nil list is an empty one.
func shown(m api.Swap) string {
	var b strings.Builder
	fmt.Fprintf(&b, "step %d places %v sums %x keys [", m.Step, m.Places, m.Sums)
	for _, k := range m.Keys {
		fmt.Fprintf(&b, "%q %x ", k.Key, k.Sum)
	}
	b.WriteString("] cells [")
	for _, k := range m.Cells {
		fmt.Fprintf(&b, "%q %s ", k.Key, shownCell(k.Cell))
	}
	fmt.Fprintf(&b, "] want %q", m.Want)
	return b.String()
}

func shownCell(c api.Cell) string {
	return fmt.Sprintf("%d %v %v", c.Kind, c.Clock, c.Store)
}

// tells holds a step against what is to be told.
func tells(t *testing.T, what string, got, want api.Swap) {
	t.Helper()
	is(t, what, shown(got), shown(want))
}

// littered is a step with something in all that doesn't belong to it.
func littered(m api.Swap) api.Swap {
	if m.Places == nil {
		m.Places = []int{1, 2, 3}
	}
	if m.Sums == nil {
		m.Sums = [][32]byte{sum("litter"), {}}
	}
	if m.Keys == nil {
		m.Keys = sums("litter 1 x 2")
	}
	if m.Cells == nil {
		m.Cells = []api.Keyed{{Key: "litter", Cell: cell.New(api.KindSet)}, {Key: "", Cell: api.Cell{Kind: 9}}}
	}
	if m.Want == nil {
		m.Want = []string{"litter", "x"}
	}
	return m
}

// Vnodes and cells

func opened(t *testing.T, node int) *vnode.Vnode {
	t.Helper()
	v, e := vnode.Open(files.New(api.MaxRoom), node, 0)
	ok(t, e)
	return v
}

// onDisk is a vnode that has x, and its disk.
func onDisk(t *testing.T) (*vnode.Vnode, *files.Disk) {
	t.Helper()
	d := files.New(1 << 20)
	v, e := vnode.Open(d, 1, 0)
	ok(t, e)
	has(t, v, "x", "1")
	return v, d
}

// broken is one whose disk has lost its power.
func broken(t *testing.T) *vnode.Vnode {
	t.Helper()
	v, d := onDisk(t)
	d.Arm(0)
	if _, e := v.Update("y", api.KindObject, put("2")); e != api.ErrPower || !v.Broken() {
		t.Fatalf("the power goes: %d", int(e))
	}
	return v
}

func put(s string) api.Update { return api.Update{Op: api.OpPut, S: s} }

// has puts texts at a key, side by side.
func has(t *testing.T, v *vnode.Vnode, key string, texts ...string) api.Cell {
	t.Helper()
	var c api.Cell
	for _, s := range texts {
		next, e := v.Update(key, api.KindObject, put(s))
		ok(t, e)
		c = next
	}
	return c
}

// object is a cell in which a node put texts, none of which had seen another.
func object(node int, texts ...string) api.Cell {
	c := cell.New(api.KindObject)
	for _, s := range texts {
		c, _ = cell.Update(c, put(s), clock.Next(c.Clock, clock.Actor(node, 0, 1)))
	}
	return c
}

func keyed(key string, c api.Cell) api.Keyed { return api.Keyed{Key: key, Cell: c} }

// sized is a right cell that has just so many bytes together with its key.
func sized(t *testing.T, key string, size int) api.Keyed {
	t.Helper()
	var texts []string
	for rest := size; rest > 20000; rest -= 19000 {
		texts = append(texts, strings.Repeat("x", 19000))
	}
	for last := 0; last <= 20000; {
		c := object(2, append(slices.Clone(texts), strings.Repeat("y", last))...)
		missing := size - len(key) - len(cell.Bytes(c))
		if missing == 0 {
			return keyed(key, c)
		}
		// A longer text has its length in up to three bytes: the last ones are tried one by one.
		last += max(1, missing-3)
	}
	t.Fatalf("no cell has %d bytes", size)
	return api.Keyed{}
}

// picture is all that a vnode has.
func picture(v *vnode.Vnode) string {
	var b strings.Builder
	for _, k := range v.Fold() {
		fmt.Fprintf(&b, "%q %s ", k.Key, shownCell(k.Cell))
	}
	fmt.Fprintf(&b, "%d %x %v", v.Len(), v.Tree().Root(), v.Broken())
	return b.String()
}
