package swap_test

import (
	"fmt"
	"math/rand"
	"slices"
	"strings"
	"testing"

	"murmuration/api"
	"murmuration/cell"
	"murmuration/swap"
	"murmuration/tree"
	"murmuration/vnode"
)

// P17.4

// apart are the keys that one tree has and the other has not, or with another sum; rising.
func apart(one, other *tree.Tree) []string {
	var l []string
	for leaf := range 256 {
		for _, k := range one.Keys(leaf) {
			if !slices.Contains(other.Keys(leaf), k) {
				l = append(l, k.Key)
			}
		}
	}
	slices.Sort(l)
	return l
}

func rising(l []string) []string { return slices.Sorted(slices.Values(l)) }

// The keys that go are those of the one who answers, those wanted the other one's: together all that are not alike.
func TestWhatGoesAndIsWantedIsWhatIsNotAlike(t *testing.T) {
	for seed := range int64(600) {
		draw := rand.New(rand.NewSource(seed))
		a, b := tree.New(), tree.New()
		for i := range draw.Intn(400) {
			key, one, other := fmt.Sprint("k", i), draw.Intn(20), draw.Intn(20)
			// Mostly both have it alike: else each leaf would differ.
			if one != 0 {
				a.Put(key, sum("0"))
			}
			if other != 0 {
				b.Put(key, sum(pick(draw, "0", "0", "0", "0", "0", "0", "0", "1")))
			}
		}
		two, _ := swap.Step(b, swap.Begin(a))
		three, _ := swap.Step(a, two)
		four, keys := swap.Step(b, three)
		what := fmt.Sprintf("seed %d", seed)
		is(t, what+": to go", rising(keys), apart(b, a))
		is(t, what+": wanted", rising(four.Want), apart(a, b))
		if len(keys)+len(four.Want) == 0 {
			is(t, what+": the first answer", two.Step, 0)
		}
		if t.Failed() {
			t.FailNow()
		}
	}
}

// exchange is one from Begin on till the step is 0; it tells the first answer's step.
func exchange(t *testing.T, a, b *vnode.Vnode) int {
	t.Helper()
	m := swap.Begin(a.Tree())
	first := 0
	for i := range 6 {
		if m.Step != i+1 {
			t.Fatalf("step %d behind %d", m.Step, i)
		}
		v, other := b, a
		if i%2 == 1 {
			v, other = a, b
		}
		was, theirs := cells(v), picture(other)
		next, e := swap.Answer(v, m)
		ok(t, e)
		onlyJoined(t, was, cells(v), m.Cells)
		is(t, "the other one", picture(other), theirs)
		if i == 0 {
			first = next.Step
		}
		if m = next; m.Step == 0 {
			return first
		}
	}
	t.Fatal("it does not end")
	return 0
}

func cells(v *vnode.Vnode) map[string]api.Cell {
	all := map[string]api.Cell{}
	for _, k := range v.Fold() {
		all[k.Key] = k.Cell
	}
	return all
}

// onlyJoined says that what is there now is what was there, joined with what came.
func onlyJoined(t *testing.T, was, now map[string]api.Cell, came []api.Keyed) {
	t.Helper()
	for _, k := range came {
		if had, there := was[k.Key]; there {
			was[k.Key] = cell.Join(had, k.Cell)
		} else {
			was[k.Key] = k.Cell
		}
	}
	if len(was) != len(now) {
		t.Fatalf("%d keys, want %d", len(now), len(was))
	}
	for key, c := range was {
		if !cell.Same(c, now[key]) {
			t.Fatalf("%q is another cell than what was there and what came", key)
		}
	}
}

// together are the keys of both.
func together(a, b *vnode.Vnode) map[string]api.Cell {
	all := cells(a)
	for key, c := range cells(b) {
		if had, there := all[key]; there {
			c = cell.Join(had, c)
		}
		all[key] = c
	}
	return all
}

// heals says that as many exchanges as there are keys leave both with all that either one had; it tells how many it took.
func heals(t *testing.T, what string, a, b *vnode.Vnode) int {
	t.Helper()
	all, took := together(a, b), 0
	for i := range len(all) {
		if exchange(t, a, b) != 0 {
			took = i + 1
		}
	}
	for _, v := range []*vnode.Vnode{a, b} {
		onlyJoined(t, all, cells(v), nil)
	}
	is(t, what+": roots", a.Tree().Root(), b.Tree().Root())
	for _, pair := range [][2]*vnode.Vnode{{a, b}, {b, a}} {
		was := picture(pair[1])
		answers(t, what+": healed", pair[1], swap.Begin(pair[0].Tree()), api.Swap{}, api.OK)
		is(t, what+": healed", picture(pair[1]), was)
	}
	return took
}

func TestTwoVnodesHeal(t *testing.T) {
	for seed := range int64(100) {
		draw := rand.New(rand.NewSource(seed))
		a, b := opened(t, 1), opened(t, 2)
		for i := range draw.Intn(12) {
			key := fmt.Sprint("k", i)
			drawnUpdates(t, draw, key, a, b)
		}
		heals(t, fmt.Sprintf("seed %d", seed), a, b)
		if t.Failed() {
			t.FailNow()
		}
	}
}

// drawnUpdates has a key at one of them, at both, alike or not; in cells up to such as fill a step.
func drawnUpdates(t *testing.T, draw *rand.Rand, key string, a, b *vnode.Vnode) {
	t.Helper()
	u, kind := put(strings.Repeat("x", pick(draw, 1, 10, 9000, 14980, 20000))), api.KindObject
	if draw.Intn(4) == 0 {
		u, kind = api.Update{Op: pick(draw, api.OpInsert, api.OpRemove), S: pick(draw, "x", "y")}, api.KindSet
	}
	way := draw.Intn(6)
	if way != 0 {
		c, e := a.Update(key, kind, u)
		ok(t, e)
		if way == 1 || way == 2 {
			ok(t, b.Join(keyed(key, c)))
		}
	}
	if way == 0 || way == 2 || way == 3 {
		_, e := b.Update(key, kind, u)
		ok(t, e)
	}
}

// Each cell fills a step for itself: a key an exchange is all that can be had.
func TestOneCellAStepIsEnough(t *testing.T) {
	large := strings.Repeat("x", 16000)
	for _, who := range []string{"aaaaaa", "bbbbbb", "cccccc", "ababab", "abcabc", "cbacba", "acbbca"} {
		a, b := opened(t, 1), opened(t, 2)
		for i, w := range who {
			for _, v := range map[rune][]*vnode.Vnode{'a': {a}, 'b': {b}, 'c': {a, b}}[w] {
				has(t, v, fmt.Sprint("k", i), large)
			}
		}
		took := heals(t, who, a, b)
		if strings.Trim(who, who[:1]) == "" && took != len(who) {
			t.Errorf("%s: it took %d", who, took)
		}
	}
}

func TestNothingToExchange(t *testing.T) {
	a, b := opened(t, 1), opened(t, 2)
	is(t, "two without keys", exchange(t, a, b), 0)
	c := has(t, a, "x", "1")
	is(t, "one with a key", exchange(t, a, b), 2)
	is(t, "its other cell", shownCell(cells(b)["x"]), shownCell(c))
	is(t, "both with it", exchange(t, b, a), 0)
	ok(t, b.Remove("x"))
	is(t, "it was let go", exchange(t, b, a), 2)
	is(t, "both with it again", exchange(t, b, a), 0)
}

// Steps that come late, twice, from another exchange, or never: all that comes of it is cells that are joined.
func TestStepsInWhateverOrder(t *testing.T) {
	for seed := range int64(100) {
		draw := rand.New(rand.NewSource(seed))
		pair := []*vnode.Vnode{opened(t, 1), opened(t, 2)}
		under := []api.Swap{}
		for i := range 60 {
			v := pick(draw, pair...)
			switch {
			case i < 30 && draw.Intn(3) == 0:
				has(t, v, fmt.Sprint("k", draw.Intn(6)), fmt.Sprint(i))
			case len(under) == 0 || draw.Intn(5) == 0:
				under = append(under, swap.Begin(v.Tree()))
			default:
				m := pick(draw, under...)
				was := cells(v)
				next, e := swap.Answer(v, m)
				ok(t, e)
				onlyJoined(t, was, cells(v), m.Cells)
				under = append(under, next)
			}
		}
		heals(t, fmt.Sprintf("seed %d", seed), pair[0], pair[1])
		if t.Failed() {
			t.FailNow()
		}
	}
}

// R4

func TestTheSameCallsHaveTheSameAnswers(t *testing.T) {
	first := ""
	for range 20 {
		draw := rand.New(rand.NewSource(7))
		names := drawnNames(draw)
		mine, other := drawnTree(draw, names), drawnTree(draw, names)
		now := ""
		for range 200 {
			m, keys := swap.Step(mine, drawnStep(draw, other, names))
			now += fmt.Sprint(shown(m), keys)
		}
		if first == "" {
			first = now
		}
		if now != first {
			t.Fatal("the same calls have other answers")
		}
	}
}
