package swap_test

import (
	"fmt"
	"math/rand"
	"slices"
	"strings"
	"testing"

	"murmuration/api"
	"murmuration/cell"
	"murmuration/swap"
	"murmuration/tree"
	"murmuration/vnode"
)

// plainStep is Step by the chapter's words, said once more: everything is looked for wherever it may be.
func plainStep(t *tree.Tree, m api.Swap) (api.Swap, []string) {
	var n api.Swap
	var keys []string
	switch m.Step {
	case 1:
		for place, own := range t.Level() {
			if place >= len(m.Sums) || m.Sums[place] != own {
				n.Step, n.Places, n.Sums = 2, append(n.Places, place), append(n.Sums, t.Level(place)...)
			}
		}
	case 2:
		i := 0
		for _, place := range m.Places {
			if place < 0 || place > 15 {
				continue
			}
			for k, own := range t.Level(place) {
				if 16*i+k >= len(m.Sums) || m.Sums[16*i+k] != own {
					n.Step, n.Places, n.Keys = 3, append(n.Places, 16*place+k), append(n.Keys, t.Keys(16*place+k)...)
				}
			}
			i++
		}
	case 3:
		var mine []api.Sum
		for i, place := range m.Places {
			if place >= 0 && place <= 255 && !slices.Contains(m.Places[:i], place) {
				mine = append(mine, t.Keys(place)...)
			}
		}
		keys, n.Want = plainUnlike(mine, m.Keys), plainUnlike(m.Keys, mine)
		if len(keys)+len(n.Want) > 0 {
			n.Step = 4
		}
	case 4:
		if len(m.Want) > 0 {
			n.Step, keys = 5, m.Want
		}
	}
	return n, keys
}

// plainUnlike are the keys, each once, that others have not, or with another sum.
func plainUnlike(l, others []api.Sum) []string {
	var keys []string
	for _, k := range l {
		none, another := true, false
		for _, o := range others {
			none = none && o.Key != k.Key
			another = another || o.Key == k.Key && o.Sum != k.Sum
		}
		if (none || another) && !slices.Contains(keys, k.Key) {
			keys = append(keys, k.Key)
		}
	}
	return keys
}

func plainFilled(v *vnode.Vnode, m api.Swap, keys []string) api.Swap {
	all := map[string]api.Cell{}
	for _, k := range v.Fold() {
		all[k.Key] = k.Cell
	}
	m.Cells = nil
	var l []api.Keyed
	for _, key := range keys {
		if c, there := all[key]; there {
			l = append(l, keyed(key, c))
		}
	}
	for n := range l {
		bytes := 0
		for _, k := range l[:n+1] {
			bytes += len(k.Key) + len(cell.Bytes(k.Cell))
		}
		if bytes <= 30000 || n == 0 {
			m.Cells = l[:n+1]
		}
	}
	return m
}

func pick[T any](draw *rand.Rand, l ...T) T { return l[draw.Intn(len(l))] }

// drawnPlaces are mostly right ones, some of them twice.
func drawnPlaces(draw *rand.Rand, below int) []int {
	var l []int
	for range draw.Intn(8) {
		l = append(l, pick(draw, draw.Intn(below), draw.Intn(below), draw.Intn(below+4)-2, draw.Intn(3)))
	}
	return l
}

// drawnStep is one as somebody who has the other tree may write it, with some wrong things in it.
func drawnStep(draw *rand.Rand, other *tree.Tree, names []string) api.Swap {
	m := api.Swap{Step: draw.Intn(8) - 1}
	switch m.Step {
	case 1:
		m.Sums = other.Level()
	case 2:
		m.Places = append(drawnPlaces(draw, 16), draw.Intn(16))
		m.Sums = other.Level(m.Places...)
	case 3:
		m.Places = drawnPlaces(draw, 256)
		for _, name := range names {
			if draw.Intn(3) > 0 {
				m.Places = append(m.Places, tree.Leaf(name))
			}
		}
		for _, place := range m.Places {
			m.Keys = append(m.Keys, other.Keys(place)...)
		}
	}
	if draw.Intn(2) == 0 {
		m = spoilt(draw, m, names)
	}
	return m
}

func spoilt(draw *rand.Rand, m api.Swap, names []string) api.Swap {
	for range draw.Intn(4) {
		m.Want = append(m.Want, pick(draw, pick(draw, names...), "nobody's", ""))
		m.Keys = append(m.Keys, api.Sum{Key: pick(draw, names...), Sum: sum(pick(draw, "0", "1", "2"))})
	}
	m.Sums = append(m.Sums, make([][32]byte, draw.Intn(3))...)
	m.Sums = m.Sums[min(len(m.Sums), draw.Intn(2)):]
	m.Sums = m.Sums[:max(0, len(m.Sums)-draw.Intn(4))]
	m.Places = append(m.Places, drawnPlaces(draw, 18)...)
	draw.Shuffle(len(m.Keys), func(i, j int) { m.Keys[i], m.Keys[j] = m.Keys[j], m.Keys[i] })
	return m
}

// drawnNames are some keys: many lie in leaves of their own, some together.
func drawnNames(draw *rand.Rand) []string {
	names := append(keysAt(draw.Intn(256), 1+draw.Intn(3)), "a", "\xff")
	for range draw.Intn(10) {
		names = append(names, fmt.Sprint("k", draw.Intn(30)))
	}
	return names
}

func drawnTree(draw *rand.Rand, names []string) *tree.Tree {
	t := tree.New()
	for _, name := range names {
		if n := draw.Intn(4); n > 0 {
			t.Put(name, sum(fmt.Sprint(n/2)))
		}
	}
	return t
}

func TestDrawnSteps(t *testing.T) {
	answered := map[int]int{}
	for seed := range int64(4000) {
		draw := rand.New(rand.NewSource(seed))
		names := drawnNames(draw)
		mine, other := drawnTree(draw, names), drawnTree(draw, names)
		for range 6 {
			m := drawnStep(draw, other, names)
			got, keys := swap.Step(mine, m)
			want, going := plainStep(mine, m)
			what := fmt.Sprintf("seed %d, to %d", seed, m.Step)
			tells(t, what, got, want)
			is(t, what+": keys", fmt.Sprintf("%q", keys), fmt.Sprintf("%q", going))
			if t.Failed() {
				t.FailNow()
			}
			answered[got.Step]++
		}
	}
	for _, step := range []int{0, 2, 3, 4, 5} {
		if answered[step] < 200 {
			t.Errorf("step %d was answered %d times alone", step, answered[step])
		}
	}
}

// drawnCells are such as may be joined, and now and then one that may not.
func drawnCells(draw *rand.Rand, names []string) []api.Keyed {
	var l []api.Keyed
	for range draw.Intn(4) {
		l = append(l, keyed(pick(draw, names...), drawnCell(draw)))
	}
	if draw.Intn(8) == 0 {
		l = append(l, pick(draw, keyed("", drawnCell(draw)), keyed("a", cell.New(api.KindSet)), keyed("a", api.Cell{Kind: 9})), keyed("behind", drawnCell(draw)))
	}
	return l
}

// drawnCell is of one text more or less of some nodes: long ones are the same wherever they are, so that no key has too many.
func drawnCell(draw *rand.Rand) api.Cell {
	node := 2 + draw.Intn(3)
	return object(node, []string{fmt.Sprint(node), strings.Repeat("x", 12000)}[:1+draw.Intn(2)]...)
}

// A vnode answers as its twin, which joins by itself, and of which Step and Filled are as the plain ones.
func TestDrawnAnswers(t *testing.T) {
	for seed := range int64(120) {
		draw := rand.New(rand.NewSource(seed))
		names := drawnNames(draw)
		v, twin, other := opened(t, 1), opened(t, 1), opened(t, 2)
		for _, name := range names {
			k := keyed(name, drawnCell(draw))
			for _, x := range pick(draw, []*vnode.Vnode{v, twin}, []*vnode.Vnode{v, twin, other}, []*vnode.Vnode{other}) {
				ok(t, x.Join(k))
			}
		}
		for range 12 {
			m := drawnStep(draw, other.Tree(), names)
			m.Cells = drawnCells(draw, names)
			var want api.Swap
			var e api.Errno
			if m.Step == 4 || m.Step == 5 {
				e = twin.Join(m.Cells...)
			}
			if e == api.OK {
				next, keys := plainStep(twin.Tree(), m)
				want = plainFilled(twin, next, keys)
			}
			what := fmt.Sprintf("seed %d, to %d", seed, m.Step)
			answers(t, what, v, m, want, e)
			is(t, what+": what there is", picture(v), picture(twin))
			if t.Failed() {
				t.FailNow()
			}
		}
	}
}
