package hand_test

import (
	"fmt"
	"math"
	"testing"

	"murmuration/api"
	"murmuration/cell"
	"murmuration/hand"
	"murmuration/vnode"
)

// P18.2

func size(k api.Keyed) int { return len(k.Key) + len(cell.Bytes(k.Cell)) }

func TestPack(t *testing.T) {
	v, g := opened(t, 1), hand.NewLedger()
	packs(t, "none", v, g, 0, 1, 1000)
	open(t, "none", g, 0)
	b, a, c := puts(t, v, "b", "2", "3"), puts(t, v, "a", "1"), puts(t, v, "c", "4")
	was := picture(v)
	packs(t, "all, rising", v, g, 0, 2, 1000, a, b, c)
	open(t, "all", g, 0, a, b, c)
	packs(t, "a most of one", v, g, 0, 3, 1, a)
	open(t, "instead of the older one", g, 0, a)
	for _, most := range []int{0, -1, math.MinInt} {
		packs(t, fmt.Sprint("a most of ", most), v, g, 0, 4, most, a)
	}
	packs(t, "the greatest most", v, g, 0, 5, math.MaxInt, a, b, c)
	is(t, "the vnode", picture(v), was)
}

// Keys and cells count, up to the last byte.
func TestPackUpToTheMost(t *testing.T) {
	v, g := opened(t, 1), hand.NewLedger()
	a, b, c := puts(t, v, "a", "1"), puts(t, v, "a longer key", "2", "3"), puts(t, v, "c", "4")
	n := size(a) + size(b)
	packs(t, "just one", v, g, 0, 1, size(a), a)
	packs(t, "one less than two", v, g, 0, 1, n-1, a)
	open(t, "one less than two", g, 0, a)
	packs(t, "just two", v, g, 0, 1, n, a, b)
	open(t, "just two", g, 0, a, b)
	packs(t, "one less than three", v, g, 0, 1, n+size(c)-1, a, b)
	packs(t, "just three", v, g, 0, 1, n+size(c), a, b, c)
}

// Cells of these sizes are there; so many of them go.
func TestPackSizes(t *testing.T) {
	for _, x := range []struct {
		sizes []int
		whole int
	}{
		{[]int{30000}, 1},
		{[]int{30001}, 1},
		{[]int{58000, 50}, 1},
		{[]int{50, 30000}, 1},
		{[]int{29950, 50, 50}, 2},
		{[]int{15000, 15000}, 2},
		{[]int{15000, 15001}, 1},
		// What has no room ends it: a later one that had goes with the next parcel.
		{[]int{10000, 25000, 50}, 1},
		{[]int{100, 100, 100, 29700, 100}, 4},
	} {
		v, g := opened(t, 1), hand.NewLedger()
		var l []api.Keyed
		for i, size := range x.sizes {
			k := sized(t, fmt.Sprint("key", i), size)
			ok(t, v.Join(k))
			l = append(l, k)
		}
		packs(t, fmt.Sprint(x.sizes), v, g, 0, 1, api.MostParcel, l[:x.whole]...)
		open(t, fmt.Sprint(x.sizes), g, 0, l[:x.whole]...)
	}
}

// Partitions and numbers are whatever the caller says.
func TestPartitionsLieApart(t *testing.T) {
	g := hand.NewLedger()
	partitions := []int{0, 1, 7, 8, -1, math.MaxInt, math.MinInt}
	var l []api.Keyed
	for i, partition := range partitions {
		v := opened(t, 1)
		l = append(l, puts(t, v, fmt.Sprint("k", i), "1"))
		packs(t, fmt.Sprint(partition), v, g, partition, 10-i, 1000, l[i])
	}
	for i, partition := range partitions {
		open(t, fmt.Sprint(partition), g, partition, l[i])
	}
	open(t, "another one", g, 2)
	g.Touch(7, "k0", "k1", "k2", "k3", "k4", "k5", "k6")
	for i, partition := range partitions {
		if partition != 7 {
			open(t, fmt.Sprint(partition), g, partition, l[i])
		}
	}
	open(t, "touched", g, 7)
}

func TestNothingChangesWhereThereIsNoneToPack(t *testing.T) {
	v, none, g := opened(t, 1), opened(t, 2), hand.NewLedger()
	a := puts(t, v, "a", "1")
	p := packs(t, "one", v, g, 0, 1, 1000, a)
	for _, empty := range []*vnode.Vnode{none, nil, {}} {
		packs(t, "none", empty, g, 0, 2, 1000)
		open(t, "the older one", g, 0, a)
	}
	back := takes(t, none, nil, p)
	lets(t, "of the older one", v, g, back, 1, api.OK)
}

// A key that was touched is open again, once it is packed again.
func TestPackedAgain(t *testing.T) {
	v, g := opened(t, 1), hand.NewLedger()
	a, b := puts(t, v, "a", "1"), puts(t, v, "b", "2")
	packs(t, "first", v, g, 0, 1, 1000, a, b)
	a = puts(t, v, "a", "3")
	g.Touch(0, "a")
	open(t, "touched", g, 0, b)
	packs(t, "again", v, g, 0, 2, 1000, a, b)
	open(t, "again", g, 0, a, b)
	packs(t, "by the same number", v, g, 0, 2, 1, a)
	open(t, "by the same number", g, 0, a)
}

func TestPackWithoutALedger(t *testing.T) {
	v := opened(t, 1)
	a := puts(t, v, "a", "1")
	packs(t, "a nil ledger", v, nil, 3, 1, 1000, a)
	var g hand.Ledger
	packs(t, "a zero one", v, &g, 3, 1, 1000, a)
	open(t, "a zero one is empty, and keeps", &g, 3, a)
	packs(t, "neither a vnode", nil, nil, 3, 1, 1000)
}

// A vnode that is broken still tells what it has.
func TestPackOfABrokenVnode(t *testing.T) {
	v, g := broken(t), hand.NewLedger()
	packs(t, "broken", v, g, 0, 1, 1000, v.Fold()...)
	is(t, "x is there", v.Fold()[0].Key, "x")
}
