package swap_test

import (
	"fmt"
	"slices"
	"testing"

	"murmuration/api"
	"murmuration/cell"
	"murmuration/swap"
	"murmuration/tree"
	"murmuration/vnode"
)

// P17.3

// filled says which cells go, and that all else is as it was.
func filled(t *testing.T, what string, v *vnode.Vnode, keys []string, want ...api.Keyed) {
	t.Helper()
	for _, m := range []api.Swap{{}, {Step: 4}, littered(api.Swap{Step: 4}), littered(api.Swap{Step: -7})} {
		got := swap.Filled(v, m, keys...)
		m.Cells = want
		tells(t, what, got, m)
	}
}

func TestFilled(t *testing.T) {
	v := opened(t, 1)
	a, b, c := keyed("a", has(t, v, "a", "1")), keyed("b", has(t, v, "b", "2", "3")), keyed("c", has(t, v, "c", "4"))
	filled(t, "no keys", v, nil)
	filled(t, "one", v, []string{"b"}, b)
	filled(t, "all", v, []string{"a", "b", "c"}, a, b, c)
	filled(t, "in the keys' order", v, []string{"c", "a", "b"}, c, a, b)
	filled(t, "some that aren't there", v, []string{"", "c", "nobody's", "a", "aa"}, c, a)
	filled(t, "none that is there", v, []string{"x", "y"})
	filled(t, "one twice", v, []string{"a", "b", "a"}, a, b, a)
	filled(t, "no vnode", nil, []string{"a"})
	filled(t, "a zero vnode", &vnode.Vnode{}, []string{"a"})
	filled(t, "a broken vnode", broken(t), []string{"x"})
}

// Cells of these sizes are asked for; so many of them go.
func TestFilledUpToTheMost(t *testing.T) {
	for _, x := range []struct {
		sizes []int
		whole int
	}{
		{[]int{30000}, 1},
		{[]int{30001}, 1},
		{[]int{58000}, 1},
		{[]int{30000, 50}, 1},
		{[]int{30001, 50}, 1},
		{[]int{50, 30000}, 1},
		{[]int{29950, 50, 50}, 2},
		{[]int{15000, 15000}, 2},
		{[]int{15000, 15001}, 1},
		{[]int{15001, 15000, 50}, 1},
		{[]int{10000, 10000, 10000, 50}, 3},
		{[]int{10000, 25000, 50, 10000}, 1},
		{[]int{40000, 50, 50}, 1},
		{[]int{100, 100, 100, 29700, 100}, 4},
	} {
		v := opened(t, 1)
		keys := []string{"nobody's"}
		var l []api.Keyed
		for i, size := range x.sizes {
			k := sized(t, fmt.Sprint("key", i), size)
			ok(t, v.Join(k))
			keys, l = append(keys, k.Key, "nobody's"), append(l, k)
		}
		filled(t, fmt.Sprint(x.sizes), v, keys, l[:x.whole]...)
	}
}

// answers says what a vnode answers.
func answers(t *testing.T, what string, v *vnode.Vnode, m, want api.Swap, e api.Errno) {
	t.Helper()
	got, errno := swap.Answer(v, m)
	tells(t, what, got, want)
	is(t, what+": error", int(errno), int(e))
}

// exampled are the chapter's vnodes: the first one has x and y, the second one y and z.
func exampled(t *testing.T) (a, b *vnode.Vnode, x, y, z api.Keyed) {
	t.Helper()
	a, b = opened(t, 1), opened(t, 2)
	x, y, z = keyed("x", has(t, a, "x", "1")), keyed("y", has(t, a, "y", "2")), keyed("z", has(t, b, "z", "3"))
	ok(t, b.Join(y))
	return a, b, x, y, z
}

func TestTheChaptersExample(t *testing.T) {
	a, b, x, _, z := exampled(t)
	leaf := []int{int(sum("x")[0]), int(sum("z")[0])}
	slices.Sort(leaf)
	branch := []int{leaf[0] / 16, leaf[1] / 16}

	one := swap.Begin(a.Tree())
	tells(t, "1", one, api.Swap{Step: 1, Sums: a.Tree().Level()})
	two := api.Swap{Step: 2, Places: branch, Sums: b.Tree().Level(branch...)}
	answers(t, "2", b, one, two, api.OK)
	three := api.Swap{Step: 3, Places: leaf, Keys: []api.Sum{{Key: "x", Sum: cell.Sum(x.Cell)}}}
	answers(t, "3", a, two, three, api.OK)
	four := api.Swap{Step: 4, Cells: []api.Keyed{z}, Want: []string{"x"}}
	answers(t, "4", b, three, four, api.OK)
	is(t, "ahead of 4", fmt.Sprint(a.Len(), b.Len()), "2 2")
	five := api.Swap{Step: 5, Cells: []api.Keyed{x}}
	answers(t, "5", a, four, five, api.OK)
	is(t, "behind 4", fmt.Sprint(a.Len(), b.Len()), "3 2")
	answers(t, "the end", b, five, api.Swap{}, api.OK)
	is(t, "behind 5", picture(a), picture(b))
	answers(t, "once more", b, swap.Begin(a.Tree()), api.Swap{}, api.OK)
}

// What one answers is Step of its tree, with the cells of the keys that go.
func TestAnswerIsStepFilled(t *testing.T) {
	a, b, _, _, _ := exampled(t)
	for _, m := range []api.Swap{
		{}, {Step: 5}, {Step: 9}, {Step: 1}, {Step: 2, Places: []int{1, 2}},
		{Step: 1, Sums: b.Tree().Level()},
		{Step: 3, Places: []int{int(sum("x")[0]), int(sum("y")[0])}, Keys: sums("q 1")},
		{Step: 4, Want: []string{"y", "q", "x"}}, {Step: 4},
	} {
		next, keys := swap.Step(a.Tree(), m)
		answers(t, shown(m), a, m, swap.Filled(a, next, keys...), api.OK)
	}
}

func TestCellsAreJoinedAtFourAndFiveAlone(t *testing.T) {
	for step := -1; step <= 7; step++ {
		v := opened(t, 1)
		has(t, v, "x", "1")
		was := picture(v)
		_, e := swap.Answer(v, api.Swap{Step: step, Cells: []api.Keyed{keyed("y", object(2, "2")), keyed("x", object(2, "3"))}})
		ok(t, e)
		if joins := step == 4 || step == 5; joins == (picture(v) == was) {
			t.Errorf("step %d: joined %v", step, !joins)
		}
	}
}

// Cells are joined first: what is wanted is told with what has just come.
func TestWhatIsWantedIsToldAsJoined(t *testing.T) {
	v := opened(t, 1)
	x := has(t, v, "x", "1")
	other, more := object(2, "2"), object(3, "3")
	both := cell.Join(x, other)
	m := api.Swap{Step: 4, Want: []string{"x", "y"}, Cells: []api.Keyed{keyed("x", other), keyed("y", more)}}
	answers(t, "joined", v, m, api.Swap{Step: 5, Cells: []api.Keyed{keyed("x", both), keyed("y", more)}}, api.OK)
}

func TestErrorsOfJoin(t *testing.T) {
	good := keyed("y", object(2, "2"))
	for what, x := range map[string]struct {
		bad api.Keyed
		e   api.Errno
	}{
		"a kind that is none": {keyed("z", api.Cell{Kind: 9}), api.ErrArg},
		"a cell not right":    {keyed("z", api.Cell{Kind: 1, Clock: api.Clock{{Actor: 1}}}), api.ErrArg},
		"no key":              {keyed("", object(2, "2")), api.ErrArg},
		"another kind":        {keyed("x", cell.New(api.KindSet)), api.ErrKind},
		"a cell too large":    {sized(t, "z", 60100), api.ErrSize},
	} {
		for step := 4; step <= 5; step++ {
			v := opened(t, 1)
			c := has(t, v, "x", "1")
			m := api.Swap{Step: step, Want: []string{"x"}, Cells: []api.Keyed{good, x.bad, keyed("behind", object(2, "3"))}}
			answers(t, what, v, m, api.Swap{}, x.e)
			is(t, what+": what there is", v.Fold(), []api.Keyed{keyed("x", c), good})
		}
		for _, step := range []int{0, 1, 2, 3, 6} {
			v := opened(t, 1)
			_, e := swap.Answer(v, api.Swap{Step: step, Cells: []api.Keyed{x.bad}})
			is(t, what+": passed over", fmt.Sprint(int(e), v.Len()), "0 0")
		}
	}
}

func TestAnswerWithoutAVnode(t *testing.T) {
	for step := -1; step <= 6; step++ {
		for _, v := range []*vnode.Vnode{nil, {}} {
			answers(t, fmt.Sprint("step ", step), v, api.Swap{Step: step}, api.Swap{}, api.ErrArg)
			answers(t, fmt.Sprint("littered step ", step), v, littered(api.Swap{Step: step}), api.Swap{}, api.ErrArg)
		}
	}
}

func TestAnswerOfABrokenVnode(t *testing.T) {
	v := broken(t)
	was := picture(v)
	for step := 4; step <= 5; step++ {
		answers(t, "without cells", v, api.Swap{Step: step, Want: []string{"x"}}, api.Swap{}, api.ErrBroken)
		answers(t, "with one", v, api.Swap{Step: step, Cells: []api.Keyed{keyed("z", object(2, "2"))}}, api.Swap{}, api.ErrBroken)
	}
	// Nothing is joined ahead of that: its tree still tells what is unlike, but no cell can be had of it.
	x := tree.Leaf("x")
	answers(t, "to 3", v, api.Swap{Step: 3, Places: []int{x}, Keys: sums("q 1")}, api.Swap{Step: 4, Want: []string{"q"}}, api.OK)
	three, e := swap.Answer(v, api.Swap{Step: 2, Places: []int{x / 16}, Sums: tree.New().Level(x / 16)})
	ok(t, e)
	tells(t, "to 2", three, api.Swap{Step: 3, Places: []int{x}, Keys: v.Tree().Keys(x)})
	is(t, "what there is", picture(v), was)
}

// The power goes while cells are joined: the disk's error is told.
func TestThePowerGoes(t *testing.T) {
	v, d := onDisk(t)
	d.Arm(0)
	answers(t, "the power goes", v, api.Swap{Step: 5, Cells: []api.Keyed{keyed("y", object(2, "2"))}}, api.Swap{}, api.ErrPower)
	answers(t, "behind it", v, api.Swap{Step: 4}, api.Swap{}, api.ErrBroken)
}

func TestTheDiskIsFull(t *testing.T) {
	v, d := onDisk(t)
	d.Limit(0)
	was := picture(v)
	answers(t, "no room", v, api.Swap{Step: 4, Want: []string{"x"}, Cells: []api.Keyed{keyed("y", object(2, "2"))}}, api.Swap{}, api.ErrFull)
	is(t, "what there is", picture(v), was)
}
