package hand_test

import (
	"fmt"
	"testing"

	"murmuration/api"
	"murmuration/cask"
	"murmuration/cell"
	"murmuration/hand"
	"murmuration/vnode"
)

// P18.4

func TestTheChaptersExamples(t *testing.T) {
	v, w, g, h := opened(t, 1), opened(t, 2), hand.NewLedger(), hand.NewLedger()
	k, l := puts(t, v, "k", "1"), puts(t, v, "l", "2")
	p := packs(t, "a most of 1", v, g, 0, 1, 1, k)
	back := takes(t, w, h, p)
	tells(t, "k's sum", back, api.Parcel{Number: 1, Back: true, Sums: sumsOf(k)})
	lets(t, "let go", v, g, back, 1, api.OK)
	is(t, "l is left", v.Fold(), []api.Keyed{l})
	lets(t, "again", v, g, back, 0, api.OK)

	ok(t, v.Join(k))
	p = packs(t, "k again", v, g, 0, 2, 1, k)
	puts(t, v, "k", "3")
	g.Touch(0, "k")
	lets(t, "k was touched", v, g, takes(t, w, h, p), 0, api.OK)
	is(t, "both are left", names(v), "k l")

	first, _ := hand.Pack(v, g, 0, 3, 1000)
	hand.Pack(v, g, 0, 4, 1000)
	lets(t, "not the last one", v, g, takes(t, w, h, first), 0, api.OK)
	is(t, "both are left still", names(v), "k l")
}

// packed is a vnode with a, b and c, all packed as the parcel 7 of partition 3, and what is told back of it.
func packed(t *testing.T) (*vnode.Vnode, *hand.Ledger, api.Parcel, []api.Keyed) {
	t.Helper()
	v, g := opened(t, 1), hand.NewLedger()
	l := []api.Keyed{puts(t, v, "a", "1"), puts(t, v, "b", "2"), puts(t, v, "c", "3")}
	p := packs(t, "all", v, g, 3, 7, 1000, l...)
	return v, g, takes(t, opened(t, 2), nil, p), l
}

func TestLet(t *testing.T) {
	v, g, back, l := packed(t)
	open(t, "packed", g, 3, l...)
	lets(t, "all", v, g, back, 3, api.OK)
	is(t, "all", v.Len(), 0)
	open(t, "done with", g, 3)
}

func TestLetOfWhatIsNoAnswer(t *testing.T) {
	for what, spoil := range map[string]func(p *api.Parcel){
		"it doesn't go back": func(p *api.Parcel) { p.Back = false },
		"another number":     func(p *api.Parcel) { p.Number = 6 },
		"a greater number":   func(p *api.Parcel) { p.Number = 8 },
		"another partition":  func(p *api.Parcel) { p.Partition = 2 },
		"nothing of all":     func(p *api.Parcel) { *p = api.Parcel{} },
	} {
		v, g, back, l := packed(t)
		wrong := back
		spoil(&wrong)
		was := picture(v)
		lets(t, what, v, g, wrong, 0, api.OK)
		is(t, what+": nothing changes", picture(v), was)
		open(t, what, g, 3, l...)
		lets(t, what+", then the right one", v, g, back, 3, api.OK)
	}
}

// What comes back of a parcel ends it, whatever it says.
func TestDoneWithInAnyCase(t *testing.T) {
	v, g, back, _ := packed(t)
	lets(t, "without sums", v, g, api.Parcel{Partition: 3, Number: 7, Back: true}, 0, api.OK)
	open(t, "without sums", g, 3)
	lets(t, "behind that", v, g, back, 0, api.OK)
	is(t, "all are left", names(v), "a b c")

	v, g, back, l := packed(t)
	part := back
	part.Sums = sumsOf(l[1])
	lets(t, "b alone", v, g, part, 1, api.OK)
	open(t, "b alone", g, 3)
	lets(t, "the others", v, g, back, 0, api.OK)
	is(t, "a and c are left", names(v), "a c")
}

// Partitions are done with one by one.
func TestOtherPartitionsGoOn(t *testing.T) {
	v, g, back, l := packed(t)
	other := packs(t, "of another partition", v, g, 4, 7, 1000, l...)
	lets(t, "the first one", v, g, back, 3, api.OK)
	open(t, "the other one", g, 4, l...)
	ok(t, v.Join(l...))
	lets(t, "the other one", v, g, takes(t, opened(t, 2), nil, other), 3, api.OK)
}

func TestOddSums(t *testing.T) {
	other := object(5, "5")
	for what, x := range map[string]struct {
		sums func(l []api.Keyed) []api.Sum
		n    int
		left string
	}{
		"in another order":        {func(l []api.Keyed) []api.Sum { return sumsOf(l[2], l[0]) }, 2, "b"},
		"each once":               {func(l []api.Keyed) []api.Sum { return sumsOf(l[1], l[1], l[0], l[1], l[0]) }, 2, "c"},
		"another sum":             {func(l []api.Keyed) []api.Sum { return sumsOf(keyed("a", other), l[1]) }, 1, "a c"},
		"another key's sum":       {func(l []api.Keyed) []api.Sum { return sumsOf(keyed("a", l[1].Cell), keyed("c", l[0].Cell)) }, 0, "a b c"},
		"another sum, then its":   {func(l []api.Keyed) []api.Sum { return sumsOf(keyed("a", other), l[0]) }, 1, "b c"},
		"its sum, then another":   {func(l []api.Keyed) []api.Sum { return sumsOf(l[0], keyed("a", other)) }, 1, "b c"},
		"no sum":                  {func(l []api.Keyed) []api.Sum { return []api.Sum{{Key: "a"}, {}} }, 0, "a b c"},
		"keys that are not there": {func(l []api.Keyed) []api.Sum { return sumsOf(keyed("d", l[0].Cell), l[0], keyed("", l[0].Cell)) }, 1, "b c"},
	} {
		v, g, back, l := packed(t)
		back.Sums = x.sums(l)
		// What else may lie in a parcel that goes back counts nothing.
		back.Cells = []api.Keyed{l[0], l[1], l[2], keyed("d", other), keyed("", api.Cell{})}
		lets(t, what, v, g, back, x.n, api.OK)
		is(t, what+": what is left", names(v), x.left)
		open(t, what, g, 3)
	}
}

// A key whose cell is another one now stays, even where nobody said that it was touched.
func TestLetAsksTheVnode(t *testing.T) {
	v, g, back, l := packed(t)
	puts(t, v, "a", "4")
	ok(t, v.Remove("b"))
	open(t, "nobody said so", g, 3, l...)
	lets(t, "changed and removed", v, g, back, 1, api.OK)
	is(t, "a is left", names(v), "a")

	// With the sum that it has now, it is not what was packed.
	v, g, back, _ = packed(t)
	a := puts(t, v, "a", "4")
	back.Sums = sumsOf(a)
	lets(t, "changed, with its new sum", v, g, back, 0, api.OK)
	is(t, "all are left", names(v), "a b c")
}

// It is not enough that the cell is just what was packed.
func TestTouchedKeysStay(t *testing.T) {
	v, g, back, l := packed(t)
	ok(t, v.Join(l[0]))
	g.Touch(3, "a", "c")
	open(t, "touched", g, 3, l[1])
	lets(t, "touched", v, g, back, 1, api.OK)
	is(t, "touched", v.Fold(), []api.Keyed{l[0], l[2]})

	v, g, back, l = packed(t)
	g.Touch(3, "a", "b", "c")
	lets(t, "all are touched", v, g, back, 0, api.OK)
	is(t, "all are left", v.Fold(), l)
	lets(t, "again", v, g, back, 0, api.OK)
}

// The other one hands them back while what it told is under way: it lets go, this one does not.
func TestToAndFro(t *testing.T) {
	v, g, back, l := packed(t)
	w, h := opened(t, 2), hand.NewLedger()
	ok(t, w.Join(l...))
	fro := packs(t, "fro", w, h, 3, 7, 1000, l...)
	again := takes(t, v, g, fro)
	lets(t, "of that one", w, h, again, 3, api.OK)
	is(t, "it has none", w.Len(), 0)
	lets(t, "of this one", v, g, back, 0, api.OK)
	is(t, "it has all", v.Fold(), l)
}

// A node that takes what it has packed itself keeps it.
func TestOnesOwnParcel(t *testing.T) {
	v, g := opened(t, 1), hand.NewLedger()
	a := puts(t, v, "a", "1")
	p := packs(t, "one", v, g, 0, 1, 1000, a)
	lets(t, "its own", v, g, takes(t, v, g, p), 0, api.OK)
	is(t, "its own", v.Fold(), []api.Keyed{a})
}

func TestLetWithoutALedger(t *testing.T) {
	v, _, back, l := packed(t)
	lets(t, "a nil ledger", v, nil, back, 0, api.OK)
	lets(t, "a zero one", v, &hand.Ledger{}, back, 0, api.OK)
	lets(t, "a new one, as behind a crash", v, hand.NewLedger(), back, 0, api.OK)
	is(t, "all are left", v.Fold(), l)
}

func TestLetWithoutAVnode(t *testing.T) {
	for _, v := range []*vnode.Vnode{nil, {}} {
		_, g, back, l := packed(t)
		for _, p := range []api.Parcel{{}, {Back: true}, {Partition: 3, Number: 7}, {Partition: 3, Number: 6, Back: true}} {
			lets(t, "no vnode", v, g, p, 0, api.ErrArg)
			lets(t, "neither", v, nil, p, 0, api.ErrArg)
			open(t, "nothing changes", g, 3, l...)
		}
		lets(t, "no vnode, and an answer", v, g, back, 0, api.ErrArg)
		open(t, "done with in any case", g, 3)
	}
}

func TestLetOfABrokenVnode(t *testing.T) {
	v, d := onDisk(t, 1)
	g := hand.NewLedger()
	a, b := puts(t, v, "a", "1"), puts(t, v, "b", "2")
	p := packs(t, "both", v, g, 0, 1, 1000, a, b)
	back := takes(t, opened(t, 2), nil, p)
	shatter(t, v, d)
	wrong := back
	wrong.Number = 2
	lets(t, "another number", v, g, wrong, 0, api.OK)
	open(t, "another number", g, 0, a, b)
	lets(t, "broken", v, g, back, 0, api.ErrBroken)
	open(t, "done with in any case", g, 0)
	lets(t, "behind that", v, g, back, 0, api.OK)
}

func TestThePowerGoesInLet(t *testing.T) {
	for steps := range 3 {
		v, d := onDisk(t, 1)
		g := hand.NewLedger()
		a, b := puts(t, v, "a", "1"), puts(t, v, "b", "2")
		back := takes(t, opened(t, 2), nil, packs(t, "both", v, g, 0, 1, 1000, a, b))
		d.Arm(steps)
		lets(t, fmt.Sprint("behind ", steps), v, g, back, 0, api.ErrPower)
		is(t, "Broken", v.Broken(), true)
		open(t, "done with in any case", g, 0)
	}
}

// There is room for one record: the keys go in the order of what was told back, and what went is gone.
func TestTheDiskIsFullInLet(t *testing.T) {
	v, d := onDisk(t, 1)
	g := hand.NewLedger()
	a, b := puts(t, v, "a", "1"), puts(t, v, "b", "2")
	back := takes(t, opened(t, 2), nil, packs(t, "both", v, g, 0, 1, 1000, a, b))
	back.Sums = sumsOf(b, a)
	record, e := cask.Record("b", "", true)
	ok(t, e)
	d.Limit(d.Used() + len(record))
	lets(t, "no room for both", v, g, back, 0, api.ErrFull)
	is(t, "a is left", v.Fold(), []api.Keyed{a})
	open(t, "done with in any case", g, 0)
	d.Limit(api.MaxRoom)
	lets(t, "room again", v, g, back, 0, api.OK)
	is(t, "a is left still", v.Fold(), []api.Keyed{a})
}

// What was let go is gone behind a crash, too.
func TestLetIsFirm(t *testing.T) {
	v, d := onDisk(t, 1)
	g := hand.NewLedger()
	a, b := puts(t, v, "a", "1"), puts(t, v, "b", "2")
	back := takes(t, opened(t, 2), nil, packs(t, "a", v, g, 0, 1, 1, a))
	lets(t, "a", v, g, back, 1, api.OK)
	d.Crash()
	v, e := vnode.Open(d, 1, 0)
	ok(t, e)
	is(t, "b is left", v.Fold(), []api.Keyed{b})
}

// Open

func TestOpen(t *testing.T) {
	v, g := opened(t, 1), hand.NewLedger()
	open(t, "new", g, 0)
	var l []api.Keyed
	for _, key := range []string{"\x00", " ", "a", "a\x00", "aa", "b", "\xc3\xa4", "\xff"} {
		l = append(l, keyed(key, object(2, key)))
		ok(t, v.Join(l[len(l)-1]))
	}
	hand.Pack(v, g, 0, 1, 1<<20)
	for range 10 {
		open(t, "rising, byte by byte", g, 0, l...)
	}
	g.Touch(0, "aa")
	open(t, "without aa", g, 0, append(append([]api.Keyed{}, l[:4]...), l[5:]...)...)
	open(t, "another partition", g, 1)
	var none *hand.Ledger
	open(t, "a nil ledger", none, 0)
	is(t, "a cell's Sum", g.Open(0)[0].Sum, cell.Sum(l[0].Cell))
}
