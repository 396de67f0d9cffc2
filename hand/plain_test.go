package hand_test

import (
	"fmt"
	"math/rand"
	"slices"
	"testing"

	"murmuration/api"
	"murmuration/cell"
	"murmuration/hand"
	"murmuration/vnode"
)

// P18.2 to P18.4 once more, by nothing but their words

// plainParcel is a partition's last one, not done with.
type plainParcel struct {
	number  int
	cells   []api.Keyed
	touched []string
}

// plain is a node's ledger.
type plain struct{ last map[int]*plainParcel }

func (g *plain) touch(partition int, keys ...string) {
	if p := g.last[partition]; p != nil {
		p.touched = append(p.touched, keys...)
	}
}

func (g *plain) open(partition int) []api.Sum {
	p := g.last[partition]
	if p == nil {
		return nil
	}
	left := slices.DeleteFunc(slices.Clone(p.cells), func(k api.Keyed) bool { return slices.Contains(p.touched, k.Key) })
	return sumsOf(left...)
}

func (g *plain) pack(v *vnode.Vnode, partition, number, most int) (api.Parcel, bool) {
	all, n := v.Fold(), 0
	for i := range all {
		bytes := 0
		for _, k := range all[:i+1] {
			bytes += size(k)
		}
		if bytes <= most || i == 0 {
			n = i + 1
		}
	}
	if n == 0 {
		return api.Parcel{}, false
	}
	g.last[partition] = &plainParcel{number: number, cells: all[:n]}
	return api.Parcel{Partition: partition, Number: number, Cells: all[:n]}, true
}

func (g *plain) take(v *vnode.Vnode, p api.Parcel) (api.Parcel, api.Errno) {
	e := v.Join(p.Cells...)
	for _, k := range p.Cells {
		g.touch(p.Partition, k.Key)
	}
	if e != api.OK {
		return api.Parcel{}, e
	}
	return api.Parcel{Partition: p.Partition, Number: p.Number, Back: true, Sums: sumsOf(p.Cells...)}, api.OK
}

func (g *plain) let(v *vnode.Vnode, p api.Parcel) (int, api.Errno) {
	last := g.last[p.Partition]
	if !p.Back || last == nil || last.number != p.Number {
		return 0, api.OK
	}
	there, due := sumsOf(v.Fold()...), g.open(p.Partition)
	var keys []string
	for _, s := range p.Sums {
		if slices.Contains(due, s) && slices.Contains(there, s) && !slices.Contains(keys, s.Key) {
			keys = append(keys, s.Key)
		}
	}
	delete(g.last, p.Partition)
	if e := v.Remove(keys...); e != api.OK {
		return 0, e
	}
	return len(keys), api.OK
}

// Drawn calls

var few = []string{"a", "aa", "b", "c", "\xff"}

var partitions = []int{0, 0, 0, 1, 8, -1}

// drawnCell is of one text more or less of some nodes.
func drawnCell(draw *rand.Rand) api.Cell {
	node := 2 + draw.Intn(2)
	return object(node, []string{fmt.Sprint(node), "more"}[:1+draw.Intn(2)]...)
}

func drawnKeys(draw *rand.Rand) []string {
	var l []string
	for range draw.Intn(4) {
		l = append(l, pick(draw, pick(draw, few...), pick(draw, few...), "nobody's", ""))
	}
	return l
}

// twins are two vnodes of which all is asked alike, one by the calls and one by their words.
type twins struct {
	t     *testing.T
	draw  *rand.Rand
	what  string
	v, w  *vnode.Vnode
	g     *hand.Ledger
	h     *plain
	past  []api.Parcel
	count map[string]int
}

func (x *twins) same(what string, got, want any) {
	x.t.Helper()
	is(x.t, x.what+": "+what, got, want)
}

func (x *twins) update() {
	key, text := pick(x.draw, few...), pick(x.draw, "1", "2")
	x.v.Update(key, api.KindObject, put(text))
	x.w.Update(key, api.KindObject, put(text))
	// Now and then nobody says that it was touched.
	if x.draw.Intn(2) == 0 {
		x.touch(pick(x.draw, partitions...), key)
	}
}

func (x *twins) touch(partition int, keys ...string) {
	x.g.Touch(partition, keys...)
	x.h.touch(partition, keys...)
}

func (x *twins) pack() {
	partition, number, most := pick(x.draw, partitions...), x.draw.Intn(4), pick(x.draw, -1, 0, 40, 60, 90, 120, 1000, 1000)
	p, some := hand.Pack(x.v, x.g, partition, number, most)
	q, want := x.h.pack(x.w, partition, number, most)
	x.same("Pack", fmt.Sprint(shown(p), some), fmt.Sprint(shown(q), want))
	x.past = append(x.past, p)
	x.count["packed"] += min(1, len(p.Cells))
	// What comes back of it, as somebody else would tell it.
	if x.draw.Intn(2) == 0 {
		x.past = append(x.past, api.Parcel{Partition: partition, Number: number, Back: true, Sums: sumsOf(p.Cells...)})
	}
}

// drawn is one of those that there were, with something wrong in it now and then.
func (x *twins) drawn() api.Parcel {
	if len(x.past) == 0 {
		return api.Parcel{}
	}
	p := x.past[max(0, len(x.past)-1-x.draw.Intn(6))]
	p.Cells, p.Sums = slices.Clone(p.Cells), slices.Clone(p.Sums)
	for range x.draw.Intn(3) {
		switch x.draw.Intn(5) {
		case 0:
			p.Partition, p.Number = pick(x.draw, partitions...), x.draw.Intn(4)
		case 1:
			p.Back = x.draw.Intn(3) > 0
		case 2:
			p.Cells = append(p.Cells, keyed(pick(x.draw, few...), drawnCell(x.draw)))
		case 3:
			p.Sums = append(p.Sums, sumOf(keyed(pick(x.draw, few...), drawnCell(x.draw))))
			p.Sums = append(p.Sums, p.Sums[:x.draw.Intn(len(p.Sums))]...)
		case 4:
			wrong := pick(x.draw, keyed("", drawnCell(x.draw)), keyed("a", cell.New(api.KindSet)), keyed("c", api.Cell{Kind: 9}))
			if x.draw.Intn(2) == 0 {
				p.Cells = append([]api.Keyed{wrong}, p.Cells...)
			}
		}
	}
	x.draw.Shuffle(len(p.Sums), func(i, j int) { p.Sums[i], p.Sums[j] = p.Sums[j], p.Sums[i] })
	return p
}

func (x *twins) take() {
	p := x.drawn()
	back, e := hand.Take(x.v, x.g, p)
	want, errno := x.h.take(x.w, p)
	x.same("Take", fmt.Sprint(shown(back), int(e)), fmt.Sprint(shown(want), int(errno)))
	x.past = append(x.past, back)
	x.count[fmt.Sprint("taken ", int(e))]++
}

func (x *twins) let() {
	p := x.drawn()
	n, e := hand.Let(x.v, x.g, p)
	want, errno := x.h.let(x.w, p)
	x.same("Let of "+shown(p), fmt.Sprint(n, int(e)), fmt.Sprint(want, int(errno)))
	x.count["let"] += n
}

func (x *twins) step() {
	switch x.draw.Intn(12) {
	case 0, 1:
		x.update()
	case 2:
		k := keyed(pick(x.draw, few...), drawnCell(x.draw))
		x.same("Join", int(x.v.Join(k)), int(x.w.Join(k)))
	case 3:
		x.touch(pick(x.draw, partitions...), drawnKeys(x.draw)...)
	case 4, 5, 6:
		x.pack()
	case 7:
		x.take()
	default:
		x.let()
	}
	x.same("what there is", picture(x.v), picture(x.w))
	for _, partition := range partitions {
		x.same("Open", shownSums(x.g.Open(partition)), shownSums(x.h.open(partition)))
	}
}

func TestDrawnCalls(t *testing.T) {
	count := map[string]int{}
	for seed := range int64(250) {
		x := &twins{t, rand.New(rand.NewSource(seed)), fmt.Sprintf("seed %d", seed), opened(t, 1), opened(t, 1), hand.NewLedger(), &plain{map[int]*plainParcel{}}, nil, count}
		for range 60 {
			x.step()
			if t.Failed() {
				t.FailNow()
			}
		}
	}
	for _, what := range []string{"packed", "taken 0", "taken 1", "taken 30", "let"} {
		if count[what] < 15 {
			t.Errorf("%s: %d times alone", what, count[what])
		}
	}
}
