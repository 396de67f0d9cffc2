package vnode_test

import (
	"fmt"
	"math"
	"testing"

	"murmuration/api"
	"murmuration/cask"
	"murmuration/cell"
	"murmuration/files"
	"murmuration/vnode"
)

// The chapter's examples

func TestExamples(t *testing.T) {
	v, d := fresh(t)
	updated(t, v, "k", api.KindObject, put("a"), `1 [1/3/1:1] {1/3/1.1"a"}`)
	updated(t, v, "k", api.KindObject, put("b"), `1 [1/3/1:2] {1/3/1.1"a" 1/3/1.2"b"}`)
	ok(t, v.Remove("k"))
	updated(t, v, "k", api.KindObject, put("c"), `1 [1/3/2:1] {1/3/2.1"c"}`)
	d.Crash()
	v = opened(t, d, 1, 3)
	updated(t, v, "j", api.KindCounter, add(1), `2 [1/3/101:1] {1/3/101.1+1}`)
	said(t, "Join", v.Join(keyed("k", cell.New(api.KindSet))), api.ErrKind)
}

// P15.1

func TestName(t *testing.T) {
	for p := range 8 {
		is(t, "Name", vnode.Name(p), fmt.Sprint("p", p))
	}
}

func TestOpenOfWhatMayNotBe(t *testing.T) {
	d, off := large(), large()
	without(t, off)
	broken := laid(t, "k", "no value")
	was := onDisk(broken)
	for _, x := range []int{math.MinInt, -1, 0, 8, 9, 1 << 16, 1<<32 + 1, math.MaxInt} {
		for _, d := range []*files.Disk{d, off, broken, {}} {
			refused(t, "a node that is none", d, x, 3, api.ErrArg)
		}
		if x != 0 {
			refused(t, "a partition that is none", d, 1, x, api.ErrArg)
			refused(t, "a partition that is none, without power", off, 1, x, api.ErrArg)
		}
	}
	refused(t, "no disk", nil, 1, 3, api.ErrArg)
	refused(t, "a zero disk", &files.Disk{}, 1, 3, api.ErrPower)
	refused(t, "without power", off, 1, 3, api.ErrPower)
	lists(t, "nothing was done", d)
	is(t, "nothing was done", onDisk(broken), was)
}

func TestOpenOfEachNodeAndPartition(t *testing.T) {
	for node := 1; node <= 7; node++ {
		d := large()
		for p := range 8 {
			v := opened(t, d, node, p)
			has(t, "new", v)
			is(t, "Minted", v.Minted(), api.Dot{})
			lists(t, "new", d, pairsOf(p)...)
			want := fmt.Sprintf("4 [%d/%d/1:1] {0\"x\":{%d/%d/1.1}}", node, p, node, p)
			c := updated(t, v, "k", api.KindSet, insert("x"), want)
			has(t, "updated", opened(t, d, node, p), keyed("k", c))
		}
		// What lies there was minted by another node, and is taken as it is.
		if node > 1 {
			other := opened(t, d, 1, 0)
			updated(t, other, "k", api.KindSet, insert("y"), fmt.Sprintf("4 [1/0/1:1 %d/0/1:1] {0\"x\":{%d/0/1.1} 0\"y\":{1/0/1.1}}", node, node))
		}
	}
}

// pairsOf are the files of the partitions ahead of p.
func pairsOf(p int) []string {
	var l []string
	for i := range p {
		l = append(l, fmt.Sprintf("p%d.000001", i), fmt.Sprintf("p%d.count", i))
	}
	return l
}

func TestOpenCleans(t *testing.T) {
	d := large()
	for _, name := range []string{"p3.000007.new", "p3.count.new", "p3.new", "p3.x", "p4.000001.new", "p.new", "p33.new"} {
		ok(t, d.Append(name, "rest"))
	}
	did(t, "Open", d, 3, func() { has(t, "cleaned", opened(t, d, 1, 3)) })
	lists(t, "cleaned", d, "p.new", "p3.x", "p33.new", "p4.000001.new")
}

func TestWhatOpenSays(t *testing.T) {
	whole := laid(t, "k", value(1, cell.New(api.KindSet)))
	for what, spoil := range map[string]func(d *files.Disk) api.Errno{
		"a segment": func(d *files.Disk) api.Errno { return d.Append("p3.000002", "\x01xxxxx") },
		"a counter": func(d *files.Disk) api.Errno { return d.Append("p3.count", "\x01xxxxx") },
	} {
		d := copied(t, whole)
		ok(t, spoil(d), d.Append("p3.count.new", "rest"))
		refused(t, what, d, 1, 3, api.ErrBroken)
		// In that order: it was cleaned already.
		is(t, what, len(d.List("p3.count.new")), 0)
		opened(t, d, 1, 2)
	}
	// A segment that ends early is what a crash may leave.
	d := copied(t, whole)
	ok(t, d.Append("p3.000002", "\x7f"))
	has(t, "a rest", opened(t, d, 1, 3), keyed("k", cell.New(api.KindSet)))
}

func TestThePowerGoesWhileItIsOpened(t *testing.T) {
	c := elsewhere(t, 2, api.KindSet, insert("x"))
	for k := range 4 {
		d := laid(t, "k", value(1, c))
		ok(t, d.Append("p3.000001.new", "rest"), d.Append("p3.count.new", "rest"))
		d.Arm(k)
		if k == 3 {
			has(t, "opened", opened(t, d, 1, 3), keyed("k", c))
			continue
		}
		refused(t, fmt.Sprint("step ", k), d, 1, 3, api.ErrPower)
		refused(t, "without power", d, 1, 3, api.ErrPower)
		d.Crash()
		has(t, "behind a crash", opened(t, d, 1, 3), keyed("k", c))
		lists(t, "behind a crash", d, "p3.000001")
	}
}

func TestValuesThatAreNone(t *testing.T) {
	right := elsewhere(t, 2, api.KindMap, in(add(5), api.Field{Kind: api.KindCounter, Name: "c"}))
	whole := value(300, right)
	notRight := right
	notRight.Clock = nil
	bad := map[string]string{
		"empty": "", "an epoch alone": "\x01", "an epoch without an end": "\x80", "an epoch that is too long": "\x80\x00" + text(cell.Bytes(right)),
		"an epoch beyond 64 bits": "\xff\xff\xff\xff\xff\xff\xff\xff\xff\x02" + text(cell.Bytes(right)), "no cell": "\x01\x00", "bytes that are no cell": "\x01\x05hello",
		"the cell alone": cell.Bytes(right), "a text alone": text(cell.Bytes(right)), "a cell that is no text": "\x01" + cell.Bytes(right),
		"a byte behind": whole + "\x00", "two": whole + whole, "a byte behind the cell": "\x01" + text(cell.Bytes(right)+"\x00"),
		"a clock that covers too little": value(1, notRight), "a kind of none": value(1, api.Cell{}), "another kind of none": value(1, api.Cell{Kind: 7}),
	}
	for i := range len(whole) {
		bad[fmt.Sprint("cut to ", i)] = whole[:i]
	}
	for what, s := range bad {
		d := laid(t, "k", s)
		was := onDisk(d)
		refused(t, what, d, 1, 3, api.ErrBroken)
		refused(t, what+", among others", laid(t, "a", whole, "k", s, "z", whole), 1, 3, api.ErrBroken)
		is(t, what, onDisk(d), was)
		// What counts is a key's last value.
		has(t, what+", ahead", opened(t, laid(t, "k", s, "k", whole), 1, 3), keyed("k", right))
		d = laid(t, "k", s)
		c, e := cask.Open(d, "p3")
		ok(t, e, c.Delete("k"), c.Sync())
		has(t, what+", gone", opened(t, d, 1, 3))
	}
}

func TestOpenOfManyKeys(t *testing.T) {
	var pairs []string
	var want []api.Keyed
	for i := range 300 {
		c := elsewhere(t, 2+i%6, 1+i%6, op(api.OpDelete))
		pairs = append(pairs, fmt.Sprintf("k%03d", i), value(uint64(i)*1000, c))
		want = append(want, keyed(fmt.Sprintf("k%03d", i), c))
	}
	d := laid(t, pairs...)
	v := opened(t, d, 1, 3)
	has(t, "many", v, want...)
	is(t, "Dirty", v.Tree().Dirty(), 0)
	// It mints by the epoch that is there, where there is one; of the counter no number was taken.
	c := updated(t, v, "k005", 6, op(api.OpDelete), "6 [1/3/5000:1 7/3/1:1] {}")
	lies(t, "of its epoch", d, "k005", value(5000, c))
	is(t, "no counter", len(d.List("p3.count")), 0)
	updated(t, v, "k000", 1, op(api.OpDelete), "1 [1/3/1:1 2/3/1:1] {}")
}
