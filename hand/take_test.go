package hand_test

import (
	"fmt"
	"testing"

	"murmuration/api"
	"murmuration/cell"
	"murmuration/hand"
	"murmuration/vnode"
)

// P18.3

func TestTake(t *testing.T) {
	v := opened(t, 2)
	x, y := keyed("x", object(1, "1", "2")), keyed("y", object(1, "3"))
	p := api.Parcel{Partition: 5, Number: 9, Cells: []api.Keyed{y, x}}
	back := takes(t, v, hand.NewLedger(), p)
	tells(t, "in order", back, api.Parcel{Partition: 5, Number: 9, Back: true, Sums: sumsOf(y, x)})
	is(t, "joined", v.Fold(), []api.Keyed{x, y})
	tells(t, "twice", takes(t, v, nil, p), back)
	is(t, "joined once", v.Fold(), []api.Keyed{x, y})
}

// The sum is that of the cell that came, not of what it was joined with.
func TestTheSumOfTheParcelsCell(t *testing.T) {
	v := opened(t, 2)
	here, came := puts(t, v, "x", "here"), keyed("x", object(1, "came"))
	back := takes(t, v, nil, api.Parcel{Cells: []api.Keyed{came}})
	tells(t, "what came", back, api.Parcel{Back: true, Sums: sumsOf(came)})
	is(t, "joined", v.Fold(), []api.Keyed{keyed("x", cell.Join(here.Cell, came.Cell))})
}

func TestTakeOfOddParcels(t *testing.T) {
	x, older, other := keyed("x", object(1, "1", "2")), keyed("x", object(1, "1")), keyed("x", object(3, "3"))
	v := opened(t, 2)
	tells(t, "none", takes(t, v, nil, api.Parcel{}), api.Parcel{Back: true})
	tells(t, "none of a number", takes(t, v, nil, api.Parcel{Partition: -3, Number: -4}), api.Parcel{Partition: -3, Number: -4, Back: true})
	p := api.Parcel{Number: 1, Back: true, Cells: []api.Keyed{x, older, x, other}, Sums: sumsOf(other, keyed("y", object(1)))}
	tells(t, "a key more than once, a parcel that goes back, sums", takes(t, v, nil, p), api.Parcel{Number: 1, Back: true, Sums: sumsOf(x, older, x, other)})
	is(t, "joined", v.Fold(), []api.Keyed{keyed("x", cell.Join(x.Cell, other.Cell))})
	nothing := keyed("n", cell.New(api.KindSet))
	tells(t, "a cell of nothing", takes(t, v, nil, api.Parcel{Cells: []api.Keyed{nothing}}), api.Parcel{Back: true, Sums: sumsOf(nothing)})
}

// A node packs a, b and c, then takes some of them from another one: also where the join changes nothing.
func TestTakenKeysAreTouched(t *testing.T) {
	v, g := opened(t, 1), hand.NewLedger()
	a, b, c := puts(t, v, "a", "1"), puts(t, v, "b", "2"), puts(t, v, "c", "3")
	packs(t, "all", v, g, 4, 1, 1000, a, b, c)
	was := picture(v)
	takes(t, v, g, api.Parcel{Partition: 3, Number: 1, Cells: []api.Keyed{a, b, c}})
	open(t, "of another partition", g, 4, a, b, c)
	takes(t, v, g, api.Parcel{Partition: 4, Number: 8, Cells: []api.Keyed{b}})
	is(t, "no change", picture(v), was)
	open(t, "b", g, 4, a, c)
	takes(t, v, g, api.Parcel{Partition: 4, Number: 9, Sums: sumsOf(a, c)})
	open(t, "sums touch nothing", g, 4, a, c)
	takes(t, v, g, api.Parcel{Partition: 4, Number: 1, Cells: []api.Keyed{keyed("d", a.Cell), keyed("c", object(2, "4")), c, c}})
	open(t, "c", g, 4, a)
	open(t, "the other partition", g, 3)
}

func TestTakeSaysWhatJoinSays(t *testing.T) {
	for what, x := range map[string]struct {
		bad api.Keyed
		e   api.Errno
	}{
		"a kind that is none": {keyed("z", api.Cell{Kind: 9}), api.ErrArg},
		"a cell not right":    {keyed("z", api.Cell{Kind: 1, Clock: api.Clock{{Actor: 1}}}), api.ErrArg},
		"no key":              {keyed("", object(2, "2")), api.ErrArg},
		"another kind":        {keyed("z", cell.New(api.KindSet)), api.ErrKind},
		"a cell too large":    {sized(t, "z", 60100), api.ErrSize},
	} {
		v, g := opened(t, 1), hand.NewLedger()
		a, b, z := puts(t, v, "a", "1"), puts(t, v, "b", "2"), puts(t, v, "z", "3")
		packs(t, what, v, g, 2, 1, 1000, a, b, z)
		c := keyed("c", object(2, "4"))
		back, e := hand.Take(v, g, api.Parcel{Partition: 2, Number: 5, Cells: []api.Keyed{c, x.bad, a}})
		is(t, what, int(e), int(x.e))
		tells(t, what, back, api.Parcel{})
		is(t, what+": up to it", v.Fold(), []api.Keyed{a, b, c, z})
		// Those that were not come to are touched as well.
		if x.bad.Key == "z" {
			open(t, what, g, 2, b)
		} else {
			open(t, what, g, 2, b, z)
		}
	}
}

func TestTakeWithoutAVnode(t *testing.T) {
	for _, v := range []*vnode.Vnode{nil, {}} {
		for _, p := range []api.Parcel{{}, {Back: true}, {Partition: 1, Number: 2, Cells: []api.Keyed{keyed("a", object(1, "1"))}}} {
			back, e := hand.Take(v, hand.NewLedger(), p)
			is(t, shown(p), int(e), int(api.ErrArg))
			tells(t, shown(p), back, api.Parcel{})
			_, e = hand.Take(v, nil, p)
			is(t, "without a ledger", int(e), int(api.ErrArg))
		}
	}
}

// Join of no vnode says something, too.
func TestTouchedWithoutAVnode(t *testing.T) {
	v, g := opened(t, 1), hand.NewLedger()
	a, b := puts(t, v, "a", "1"), puts(t, v, "b", "2")
	packs(t, "both", v, g, 0, 1, 1000, a, b)
	hand.Take(nil, g, api.Parcel{Cells: []api.Keyed{a}})
	open(t, "a", g, 0, b)
}

func TestTakeOfABrokenVnode(t *testing.T) {
	v, d := onDisk(t, 1)
	g := hand.NewLedger()
	a, b := puts(t, v, "a", "1"), puts(t, v, "b", "2")
	packs(t, "both", v, g, 0, 1, 1000, a, b)
	d.Arm(0)
	p := api.Parcel{Cells: []api.Keyed{keyed("a", object(2, "3"))}}
	back, e := hand.Take(v, g, p)
	is(t, "the power goes", fmt.Sprint(int(e), shown(back)), fmt.Sprint(int(api.ErrPower), shown(api.Parcel{})))
	open(t, "a", g, 0, b)
	back, e = hand.Take(v, g, api.Parcel{})
	is(t, "broken", fmt.Sprint(int(e), shown(back)), fmt.Sprint(int(api.ErrBroken), shown(api.Parcel{})))
}

func TestTakeOnAFullDisk(t *testing.T) {
	v, d := onDisk(t, 1)
	a := puts(t, v, "a", "1")
	d.Limit(0)
	back, e := hand.Take(v, nil, api.Parcel{Cells: []api.Keyed{a}})
	is(t, "nothing new", int(e), 0)
	tells(t, "nothing new", back, api.Parcel{Back: true, Sums: sumsOf(a)})
	back, e = hand.Take(v, nil, api.Parcel{Cells: []api.Keyed{a, keyed("b", a.Cell)}})
	is(t, "no room", int(e), int(api.ErrFull))
	tells(t, "no room", back, api.Parcel{})
	is(t, "no room", v.Fold(), []api.Keyed{a})
}

// Touch

func TestTouch(t *testing.T) {
	v, g := opened(t, 1), hand.NewLedger()
	a, b, c := puts(t, v, "a", "1"), puts(t, v, "b", "2"), puts(t, v, "c", "3")
	g.Touch(0, "a")
	packs(t, "touched ahead of it", v, g, 0, 1, 1000, a, b, c)
	g.Touch(0)
	g.Touch(0, "", "d", "aa")
	g.Touch(1, "a", "b", "c")
	open(t, "others", g, 0, a, b, c)
	g.Touch(0, "c", "a", "c")
	open(t, "a and c", g, 0, b)
	g.Touch(0, "b")
	open(t, "all", g, 0)
	open(t, "never packed", g, 1)
	var none *hand.Ledger
	none.Touch(0, "a")
	open(t, "a nil ledger", none, 0)
	var zero hand.Ledger
	zero.Touch(0, "a")
	open(t, "a zero one", &zero, 0)
}
