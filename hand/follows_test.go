package hand_test

import (
	"fmt"
	"maps"
	"math/rand"
	"slices"
	"strings"
	"testing"

	"murmuration/api"
	"murmuration/cell"
	"murmuration/files"
	"murmuration/hand"
	"murmuration/vnode"
)

// P18.5

// site is a node with its part of partition 0. Its numbers go on behind a crash; its ledger doesn't.
type site struct {
	node   int
	disk   *files.Disk
	v      *vnode.Vnode
	g      *hand.Ledger
	number int
}

// letter is a parcel that is under way, by the places of sites.
type letter struct {
	from, to int
	p        api.Parcel
}

type world struct {
	t     *testing.T
	draw  *rand.Rand
	what  string
	sites []*site
	under []letter
	had   map[string]api.Cell // all that any of them ever had, joined
	count map[string]int
}

// begun has some nodes. The counts are those of all worlds.
func begun(t *testing.T, seed int64, count map[string]int) *world {
	t.Helper()
	draw := rand.New(rand.NewSource(seed))
	w := &world{t: t, draw: draw, what: fmt.Sprintf("seed %d", seed), had: map[string]api.Cell{}, count: count}
	for node := 1; node <= 2+draw.Intn(3); node++ {
		s := &site{node: node, disk: files.New(api.MaxRoom)}
		s.start(t)
		w.sites = append(w.sites, s)
	}
	return w
}

// start opens a site, as it would be behind a crash.
func (s *site) start(t *testing.T) {
	t.Helper()
	v, e := vnode.Open(s.disk, s.node, 0)
	ok(t, e)
	s.v, s.g = v, hand.NewLedger()
}

func (s *site) pack(most int) (api.Parcel, bool) {
	s.number++
	return hand.Pack(s.v, s.g, 0, s.number, most)
}

func kindOf(key string) int {
	return map[byte]int{'o': api.KindObject, 'c': api.KindCounter, 's': api.KindSet}[key[0]]
}

func (w *world) key() string { return pick(w.draw, "o1", "o2", "c1", "c2", "s1") }

func (w *world) any() (int, *site) {
	i := w.draw.Intn(len(w.sites))
	return i, w.sites[i]
}

func (w *world) update() {
	_, s := w.any()
	key := w.key()
	var seen []api.Clock
	var u api.Update
	switch kindOf(key) {
	case api.KindObject:
		u = put(fmt.Sprint(w.draw.Intn(100)))
		if c, e := s.v.Get(key); e == api.OK && w.draw.Intn(2) == 0 {
			seen = append(seen, c.Clock)
		}
	case api.KindCounter:
		u = api.Update{Op: api.OpAdd, N: int64(1 + w.draw.Intn(9))}
	case api.KindSet:
		u = api.Update{Op: pick(w.draw, api.OpInsert, api.OpInsert, api.OpRemove), S: pick(w.draw, "x", "y")}
	}
	s.v.Update(key, kindOf(key), u, seen...)
	s.g.Touch(0, key)
}

// give is what a node joins beside parcels: a replica's answer, or a repair.
func (w *world) give() {
	_, from := w.any()
	_, to := w.any()
	if all := from.v.Fold(); len(all) > 0 {
		k := pick(w.draw, all...)
		to.v.Join(k)
		to.g.Touch(0, k.Key)
	}
}

func (w *world) pack() {
	from, s := w.any()
	to, _ := w.any()
	if p, some := s.pack(pick(w.draw, 1, 60, 120, 1000, 1000)); some {
		w.under = append(w.under, letter{from, to, p})
	}
}

// deliver brings a letter: it may be any of them, and may come once more later.
func (w *world) deliver() {
	if len(w.under) == 0 {
		return
	}
	i := w.draw.Intn(len(w.under))
	m := w.under[i]
	if w.draw.Intn(4) > 0 {
		w.under = slices.Delete(w.under, i, i+1)
	}
	s := w.sites[m.to]
	if m.p.Back {
		n, _ := hand.Let(s.v, s.g, m.p)
		w.count["let"] += n
		w.count["kept"] += len(m.p.Sums) - n
		return
	}
	if back, e := hand.Take(s.v, s.g, m.p); e == api.OK {
		w.under = append(w.under, letter{m.to, m.from, back})
	}
}

func (w *world) step() {
	switch w.draw.Intn(20) {
	case 0, 1, 2:
		w.update()
	case 3, 4:
		w.give()
	case 5, 6, 7, 8:
		w.pack()
	case 9:
		if len(w.under) > 0 {
			w.under = slices.Delete(w.under, 0, 1)
		}
	case 10:
		if _, s := w.any(); w.draw.Intn(2) == 0 {
			s.disk.Arm(w.draw.Intn(5))
		} else {
			s.v.Tidy()
		}
	default:
		w.deliver()
	}
	w.revive()
}

// revive has those whose power has gone run again.
func (w *world) revive() {
	for _, s := range w.sites {
		if !s.disk.On() {
			s.disk.Crash(w.draw.Intn(100), w.draw.Intn(100))
			s.start(w.t)
			w.count["crashes"]++
		}
	}
}

// together is what the sites have.
func (w *world) together() map[string]api.Cell {
	all := map[string]api.Cell{}
	for _, s := range w.sites {
		for _, k := range s.v.Fold() {
			if c, there := all[k.Key]; there {
				k.Cell = cell.Join(c, k.Cell)
			}
			all[k.Key] = k.Cell
		}
	}
	return all
}

// holds says that all that any of them had is there still.
func (w *world) holds() {
	w.t.Helper()
	now := w.together()
	for key, c := range w.had {
		there, some := now[key]
		if !some || !cell.Same(cell.Join(there, c), there) {
			w.t.Fatalf("%s: of %q there is %s, there was %s", w.what, key, shownCell(there), shownCell(c))
		}
	}
	w.had = now
}

// Whatever comes between, late, twice or never: nothing is lost.
func TestNothingIsLost(t *testing.T) {
	count := map[string]int{}
	for seed := range int64(250) {
		w := begun(t, seed, count)
		for range 120 {
			w.step()
			w.holds()
		}
		w.gather()
	}
	for _, what := range []string{"let", "kept", "crashes"} {
		if count[what] < 400 {
			t.Errorf("%s: %d times alone", what, count[what])
		}
	}
}

// gather has the first one take all that the others have; what is under way comes behind that, and changes nothing.
func (w *world) gather() {
	w.t.Helper()
	first := w.sites[0]
	for _, s := range w.sites {
		s.disk.Arm(-1)
		if s != first {
			emptied(w.t, w.what, s, first, pick(w.draw, 1, 100, api.MostParcel))
		}
	}
	w.holds()
	for _, m := range w.under {
		if m.p.Back {
			hand.Let(w.sites[m.to].v, w.sites[m.to].g, m.p)
		}
	}
	w.holds()
	is(w.t, w.what+": all is at the first one", shownSums(sumsOf(first.v.Fold()...)), shownSums(sortedSums(w.had)))
}

func sortedSums(all map[string]api.Cell) []api.Sum {
	var l []api.Sum
	for _, key := range slices.Sorted(maps.Keys(all)) {
		l = append(l, sumOf(keyed(key, all[key])))
	}
	return l
}

// emptied hands all of one site to another, and tells in how many parcels.
func emptied(t *testing.T, what string, from, to *site, most int) int {
	t.Helper()
	keys := from.v.Len()
	for n := range keys + 1 {
		p, some := from.pack(most)
		if !some {
			is(t, what+": empty", from.v.Len(), 0)
			return n
		}
		lets(t, what+": let go", from.v, from.g, takes(t, to.v, to.g, p), len(p.Cells), api.OK)
	}
	t.Fatalf("%s: %d are left", what, from.v.Len())
	return 0
}

// As many parcels as there are keys are enough, however little goes in each one.
func TestAVnodeIsEmptied(t *testing.T) {
	for _, x := range []struct{ most, keys, want int }{
		{0, 5, 5}, {1, 12, 12}, {api.MostParcel, 12, 6}, {1 << 20, 12, 1}, {api.MostParcel, 0, 0}, {api.MostParcel, 1, 1},
	} {
		w := begun(t, 0, nil)
		from, to := w.sites[0], w.sites[1]
		var l []api.Keyed
		for i := range x.keys {
			key := fmt.Sprintf("o%02d", i)
			k := puts(t, from.v, key, strings.Repeat("x", 11000))
			if i%3 == 0 {
				k.Cell = cell.Join(k.Cell, puts(t, to.v, key, "there").Cell)
			}
			l = append(l, k)
		}
		is(t, fmt.Sprint("parcels of ", x.most), emptied(t, "emptied", from, to, x.most), x.want)
		is(t, "all cells are there", to.v.Fold(), l)
	}
}

// Somebody updates a key between a parcel and its answer: it comes with a later one.
func TestWhatWasUpdatedComesLater(t *testing.T) {
	w := begun(t, 0, nil)
	from, to := w.sites[0], w.sites[1]
	puts(t, from.v, "a", "1")
	puts(t, from.v, "b", "2")
	p, _ := from.pack(1000)
	back := takes(t, to.v, to.g, p)
	a := puts(t, from.v, "a", "3")
	from.g.Touch(0, "a")
	lets(t, "b", from.v, from.g, back, 1, api.OK)
	is(t, "a is left", from.v.Fold(), []api.Keyed{a})
	emptied(t, "later", from, to, 1000)
	c, e := to.v.Get("a")
	ok(t, e)
	is(t, "a", shownCell(c), shownCell(a.Cell))
}

// A key that went, and came back with the same cell, is another one's to let go.
func TestItCameBackAlike(t *testing.T) {
	w := begun(t, 0, nil)
	one, two := w.sites[0], w.sites[1]
	a := puts(t, one.v, "o", "1")
	p, _ := one.pack(1000)
	back := takes(t, two.v, two.g, p)
	q, _ := two.pack(1000)
	lets(t, "two lets go", two.v, two.g, takes(t, one.v, one.g, q), 1, api.OK)
	for range 2 {
		lets(t, "one does not", one.v, one.g, back, 0, api.OK)
		is(t, "one has it", one.v.Fold(), []api.Keyed{a})
		one.pack(1000)
	}
}

// R4

func TestTheSameCallsHaveTheSameAnswers(t *testing.T) {
	first := ""
	for range 10 {
		w := begun(t, 5, map[string]int{})
		now := ""
		for range 80 {
			w.step()
			for _, s := range w.sites {
				now += picture(s.v) + shownSums(s.g.Open(0))
			}
			for _, m := range w.under {
				now += shown(m.p)
			}
		}
		if first == "" {
			first = now
		}
		if now != first {
			t.Fatal("another answer")
		}
	}
}
