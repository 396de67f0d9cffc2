package hand_test

import (
	"slices"
	"testing"

	"murmuration/api"
	"murmuration/cell"
	"murmuration/hand"
)

// R3

// scribble writes over all that a list could reach.
func scribble[T any](l []T, with T) {
	l = l[:cap(l)]
	for i := range l {
		l[i] = with
	}
}

// scribbleParcel is what an owner may do to a parcel.
func scribbleParcel(p api.Parcel) {
	for _, k := range p.Cells {
		scribble(k.Cell.Clock, api.Dot{Actor: 99, N: 99})
		scribble(k.Cell.Store.Entries, api.Entry{Dot: api.Dot{Actor: 99, N: 99}, S: "scribbled"})
	}
	scribble(p.Cells, api.Keyed{Key: "scribbled"})
	scribble(p.Sums, api.Sum{Key: "scribbled"})
}

// roomy has the same elements, and room behind them in which something may be written by mistake.
func roomy[T any](l []T, behind T) []T {
	l = append(slices.Clone(l), behind, behind, behind)
	return l[:len(l)-3]
}

// roomyParcel shares nothing with the parcel that it is like.
func roomyParcel(p api.Parcel) api.Parcel {
	var cells []api.Keyed
	for _, k := range p.Cells {
		cells = append(cells, keyed(k.Key, cell.Join(k.Cell, k.Cell)))
	}
	p.Cells, p.Sums = roomy(cells, api.Keyed{Key: "behind"}), roomy(p.Sums, api.Sum{Key: "behind"})
	return p
}

// whole is a parcel with what lies in its lists' room.
func whole(p api.Parcel) string {
	p.Cells, p.Sums = p.Cells[:cap(p.Cells)], p.Sums[:cap(p.Sums)]
	return shown(p)
}

func TestWhatIsPackedIsTheOwnersOwn(t *testing.T) {
	v, g := opened(t, 1), hand.NewLedger()
	a, b, c := puts(t, v, "a", "1", "2"), puts(t, v, "b", "3"), puts(t, v, "c", "4")
	was := picture(v)
	p, _ := hand.Pack(v, g, 0, 1, size(a)+size(b))
	q, _ := hand.Pack(v, nil, 0, 1, 1000)
	told := shown(q)
	scribbleParcel(p)
	is(t, "the vnode", picture(v), was)
	open(t, "the ledger", g, 0, a, b)
	tells(t, "another one", q, api.Parcel{Number: 1, Cells: []api.Keyed{a, b, c}})
	puts(t, v, "a", "5")
	ok(t, v.Remove("b"))
	is(t, "it doesn't change later", shown(q), told)
}

func TestWhatIsTakenStays(t *testing.T) {
	v, g := opened(t, 1), hand.NewLedger()
	puts(t, v, "a", "1")
	p := roomyParcel(api.Parcel{Number: 1, Cells: []api.Keyed{keyed("a", object(2, "2")), keyed("b", object(2, "3", "4"))}, Sums: sumsOf(keyed("s", object(2)))})
	was := whole(p)
	back := takes(t, v, g, p)
	is(t, "what is handed in", whole(p), was)
	here, told := picture(v), shown(back)
	scribbleParcel(takes(t, v, g, roomyParcel(p)))
	is(t, "what is told is another memory", whole(p), was)
	scribbleParcel(p)
	is(t, "its owner changes it: the vnode", picture(v), here)
	is(t, "its owner changes it: what was told", shown(back), told)
}

func TestWhatIsLetGoStays(t *testing.T) {
	v, g, back, l := packed(t)
	back = roomyParcel(back)
	back.Cells = roomy(l, api.Keyed{Key: "behind"})
	was := whole(back)
	lets(t, "all", v, g, back, 3, api.OK)
	is(t, "what is handed in", whole(back), was)
}

func TestWhatIsOpenIsTheOwnersOwn(t *testing.T) {
	v, g, back, l := packed(t)
	told := g.Open(3)
	was := shownSums(told)
	scribble(g.Open(3), api.Sum{Key: "scribbled"})
	open(t, "scribbled", g, 3, l...)
	g.Touch(3, "a")
	lets(t, "two", v, g, back, 2, api.OK)
	is(t, "it doesn't change later", shownSums(told), was)
}

func TestKeysThatAreTouchedStay(t *testing.T) {
	_, g, _, l := packed(t)
	keys := roomy([]string{"c", "a"}, "behind")
	g.Touch(3, keys...)
	is(t, "keys", keys[:cap(keys)][:5], []string{"c", "a", "behind", "behind", "behind"})
	scribble(keys, "b")
	open(t, "their owner changes them", g, 3, l[1])
	up := roomy([]int{3, 2}, 9)
	hand.Home(four, 0, 4, up...)
	is(t, "up", up[:cap(up)][:5], []int{3, 2, 9, 9, 9})
}

// Two ledgers have nothing in common.
func TestLedgersLieApart(t *testing.T) {
	v, g, _, l := packed(t)
	other := hand.NewLedger()
	other.Touch(3, "a", "b", "c")
	open(t, "the first one", g, 3, l...)
	hand.Pack(v, other, 3, 8, 1)
	open(t, "the first one still", g, 3, l...)
	open(t, "the other one", other, 3, l[0])
}
