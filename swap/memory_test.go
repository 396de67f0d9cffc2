package swap_test

import (
	"fmt"
	"slices"
	"testing"

	"murmuration/api"
	"murmuration/cell"
	"murmuration/swap"
	"murmuration/tree"
	"murmuration/vnode"
)

// R3

// scribble writes over all that a list could reach.
func scribble[T any](l []T, with T) {
	l = l[:cap(l)]
	for i := range l {
		l[i] = with
	}
}

// scribbleStep is what an owner may do to a step.
func scribbleStep(m api.Swap) {
	scribble(m.Places, 77)
	scribble(m.Sums, sum("scribbled"))
	scribble(m.Keys, api.Sum{Key: "scribbled"})
	scribble(m.Want, "scribbled")
	for _, k := range m.Cells {
		scribble(k.Cell.Clock, api.Dot{Actor: 99, N: 99})
		scribble(k.Cell.Store.Entries, api.Entry{Dot: api.Dot{Actor: 99, N: 99}, S: "scribbled"})
	}
	scribble(m.Cells, api.Keyed{Key: "scribbled"})
}

// roomy has the same elements, and room behind them in which something may be written by mistake.
func roomy[T any](l []T, behind T) []T {
	l = append(slices.Clone(l), behind, behind, behind)
	return l[:len(l)-3]
}

// roomyStep shares nothing with the step that it is like.
func roomyStep(m api.Swap) api.Swap {
	var cells []api.Keyed
	for _, k := range m.Cells {
		cells = append(cells, keyed(k.Key, cell.Join(k.Cell, k.Cell)))
	}
	return api.Swap{
		Step:   m.Step,
		Places: roomy(m.Places, 55),
		Sums:   roomy(m.Sums, sum("behind")),
		Keys:   roomy(m.Keys, api.Sum{Key: "behind"}),
		Cells:  roomy(cells, api.Keyed{Key: "behind"}),
		Want:   roomy(m.Want, "behind"),
	}
}

// whole is a step with what lies in its lists' room.
func whole(m api.Swap) string {
	return shown(api.Swap{
		Step:   m.Step,
		Places: m.Places[:cap(m.Places)],
		Sums:   m.Sums[:cap(m.Sums)],
		Keys:   m.Keys[:cap(m.Keys)],
		Cells:  m.Cells[:cap(m.Cells)],
		Want:   m.Want[:cap(m.Want)],
	})
}

// talk is a vnode, and steps of all kinds to which it has something to answer.
func talk(t *testing.T) (*vnode.Vnode, []api.Swap) {
	t.Helper()
	v, other := opened(t, 1), opened(t, 2)
	for i := range 8 {
		key := fmt.Sprint("k", i)
		if i%2 == 0 {
			has(t, v, key, "1", "2")
		}
		if i%3 == 0 {
			has(t, other, key, "3", "4")
		}
	}
	l := []api.Swap{swap.Begin(other.Tree())}
	two, _ := swap.Answer(v, l[0])
	three, _ := swap.Answer(other, two)
	back := swap.Begin(v.Tree())
	for range 3 {
		x := other
		if back.Step == 2 {
			x = v
		}
		back, _ = swap.Answer(x, back)
		l = append(l, back)
	}
	l = append(l, three, api.Swap{Step: 5, Cells: l[3].Cells})
	return v, l
}

func TestWhatIsHandedInStays(t *testing.T) {
	v, l := talk(t)
	for _, m := range l {
		m = roomyStep(m)
		was, there := whole(m), picture(v)
		swap.Step(v.Tree(), m)
		swap.Filled(v, m, m.Want...)
		is(t, fmt.Sprint("asked with ", m.Step), picture(v), there)
		swap.Answer(v, m)
		is(t, fmt.Sprint("step ", m.Step), whole(m), was)
	}
	keys := roomy([]string{"k0", "k2"}, "behind")
	swap.Filled(v, api.Swap{}, keys...)
	is(t, "keys", keys[:5], []string{"k0", "k2", "behind", "behind", "behind"})
}

// What is told is not of the step's memory to which it is the answer, nor of the tree's or the vnode's.
func TestWhatIsToldIsTheOwnersOwn(t *testing.T) {
	v, l := talk(t)
	seen := map[int]struct{}{}
	for _, m := range l {
		m = roomyStep(m)
		seen[m.Step] = struct{}{}
		answer, e := swap.Answer(v, m)
		ok(t, e)
		n, keys := swap.Step(v.Tree(), m)
		f := swap.Filled(v, m, "k0", "k2")
		told := func() string { return shown(answer) + shown(n) + fmt.Sprint(keys) + shown(f) }
		was, here, there := told(), picture(v), whole(m)

		answer2, _ := swap.Answer(v, m)
		n2, keys2 := swap.Step(v.Tree(), m)
		f2 := swap.Filled(v, m, "k0", "k2")
		scribbleStep(answer2)
		scribbleStep(n2)
		scribble(keys2, "scribbled")
		scribbleStep(f2)
		is(t, fmt.Sprintf("step %d: the vnode", m.Step), picture(v), here)
		is(t, fmt.Sprintf("step %d: what was handed in", m.Step), whole(m), there)

		scribbleStep(m)
		is(t, fmt.Sprintf("step %d: the owner changes it", m.Step), told(), was)
		is(t, fmt.Sprintf("step %d: the vnode, behind that", m.Step), picture(v), here)
	}
	is(t, "all steps", len(seen), 5)
}

// The lists of one answer share nothing.
func TestListsOfOneAnswerAreApart(t *testing.T) {
	m := api.Swap{Step: 3, Places: []int{tree.Leaf("a")}, Keys: sums("a 9 b 9")}
	n, keys := swap.Step(planted("a 1"), m)
	scribble(keys, "scribbled")
	is(t, "Want", n.Want, []string{"a", "b"})
	m = api.Swap{Step: 4, Want: []string{"a", "b"}}
	_, keys = swap.Step(planted("a 1"), m)
	scribble(keys, "scribbled")
	is(t, "what was wanted", m.Want, []string{"a", "b"})
}

func TestWhatIsToldDoesNotChangeLater(t *testing.T) {
	v := opened(t, 1)
	has(t, v, "x", "1")
	begun := swap.Begin(v.Tree())
	two, _ := swap.Answer(v, api.Swap{Step: 1})
	three, _ := swap.Answer(v, api.Swap{Step: 2, Places: []int{tree.Leaf("x") / 16}})
	four, _ := swap.Answer(v, api.Swap{Step: 3, Places: []int{tree.Leaf("x")}, Keys: sums("y 1")})
	five, _ := swap.Answer(v, api.Swap{Step: 4, Want: []string{"x"}})
	told := func() string { return shown(begun) + shown(two) + shown(three) + shown(four) + shown(five) }
	was := told()
	c := has(t, v, "x", "2", "3")
	ok(t, v.Join(keyed("x", cell.Join(c, object(3, "4")))), v.Join(keyed("y", object(3, "4"))))
	v.Tree().Root()
	ok(t, v.Remove("x"))
	v.Tree().Level()
	is(t, "what was told", told(), was)
}
