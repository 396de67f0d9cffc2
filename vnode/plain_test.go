package vnode_test

import (
	"encoding/binary"
	"fmt"
	"maps"
	"math/rand"
	"slices"
	"strings"
	"testing"

	"murmuration/api"
	"murmuration/cask"
	"murmuration/cell"
	"murmuration/clock"
	"murmuration/files"
	"murmuration/kinds"
	"murmuration/squash"
	"murmuration/tree"
	"murmuration/vnode"
)

// plain is a vnode by the chapter's words: its cells and epochs lie beside its files, which are on a disk of its own, and its tree is made anew whenever it is asked for.
type plain struct {
	d               *files.Disk
	node, partition int
	c               *cask.Cask
	n               *squash.Counter
	cells           map[string]api.Cell
	epochs          map[string]uint64
	minted          api.Dot
	broken          bool
}

func openPlain(d *files.Disk, node, partition int) (*plain, api.Errno) {
	name := fmt.Sprintf("p%d", partition)
	p := &plain{d: d, node: node, partition: partition, cells: map[string]api.Cell{}, epochs: map[string]uint64{}}
	var e api.Errno
	if _, e = squash.Clean(d, name); e != api.OK {
		return nil, e
	}
	if p.c, e = cask.Open(d, name); e != api.OK {
		return nil, e
	}
	if p.n, e = squash.NewCounter(d, name); e != api.OK {
		return nil, e
	}
	for _, pair := range p.c.Fold() {
		epoch, size := binary.Uvarint([]byte(pair.Value))
		_, ahead := binary.Uvarint([]byte(pair.Value[size:]))
		p.epochs[pair.Key] = epoch
		if p.cells[pair.Key], e = cell.Read(pair.Value[size+ahead:]); e != api.OK {
			return nil, api.ErrBroken
		}
	}
	return p, api.OK
}

// disk says what an error of the disk does.
func (p *plain) disk(e api.Errno) api.Errno {
	p.broken = p.broken || e != api.OK && e != api.ErrFull
	return e
}

func (p *plain) put(key string, epoch uint64, c api.Cell) api.Errno {
	s := value(epoch, c)
	if len(s) > 60000 {
		return api.ErrSize
	}
	if e := p.disk(p.c.Put(key, s)); e != api.OK {
		return e
	}
	p.cells[key], p.epochs[key] = c, epoch
	return api.OK
}

func (p *plain) update(key string, kind int, u api.Update, seen []api.Clock) (api.Cell, api.Errno) {
	c, there := p.cells[key]
	if !there {
		c = cell.New(kind)
	}
	switch {
	case p.broken:
		return api.Cell{}, api.ErrBroken
	case len(key) < 1 || len(key) > 255:
		return api.Cell{}, api.ErrArg
	case c.Kind != kind:
		return api.Cell{}, api.ErrKind
	}
	if e := kinds.Check(kind, u); e != api.OK {
		return api.Cell{}, e
	}
	epoch := p.epochs[key]
	if epoch == 0 {
		next, e := p.n.Next()
		if e != api.OK {
			return api.Cell{}, p.disk(e)
		}
		epoch = next
	}
	dot := clock.Next(c.Clock, clock.Actor(p.node, p.partition, int(epoch)))
	c, e := cell.Update(c, u, dot, seen...)
	if e != api.OK {
		return api.Cell{}, e
	}
	if e := p.put(key, epoch, c); e != api.OK {
		return api.Cell{}, e
	}
	if e := p.disk(p.c.Sync()); e != api.OK {
		return api.Cell{}, e
	}
	p.minted = dot
	return c, api.OK
}

func (p *plain) join(l []api.Keyed) api.Errno {
	if p.broken {
		return api.ErrBroken
	}
	first, some := api.OK, false
	for _, k := range l {
		had, there := p.cells[k.Key]
		both := k.Cell
		if there {
			both = cell.Join(had, k.Cell)
		}
		switch {
		case len(k.Key) < 1 || len(k.Key) > 255 || !cell.Right(k.Cell):
			first = api.ErrArg
		case there && had.Kind != k.Cell.Kind:
			first = api.ErrKind
		case there && cell.Same(both, had):
			continue
		default:
			first = p.put(k.Key, p.epochs[k.Key], both)
			some = some || first == api.OK
		}
		if first != api.OK {
			break
		}
	}
	return p.synced(first, some)
}

func (p *plain) synced(first api.Errno, some bool) api.Errno {
	if some {
		if e := p.disk(p.c.Sync()); first == api.OK {
			return e
		}
	}
	return first
}

func (p *plain) remove(keys []string) api.Errno {
	if p.broken {
		return api.ErrBroken
	}
	first, some := api.OK, false
	for _, key := range keys {
		if _, there := p.cells[key]; !there {
			first = api.ErrNone
			break
		}
		if first = p.disk(p.c.Delete(key)); first != api.OK {
			break
		}
		delete(p.cells, key)
		delete(p.epochs, key)
		some = true
	}
	return p.synced(first, some)
}

func (p *plain) tidy() (int, api.Errno) {
	switch {
	case p.broken:
		return 0, api.ErrBroken
	case p.c.Dead() <= len(p.cells) || p.c.Dead() < 16:
		return 0, api.OK
	}
	n, e := squash.Squash(p.c)
	return n, p.disk(e)
}

func (p *plain) get(key string) (api.Cell, api.Errno) {
	c, there := p.cells[key]
	switch {
	case p.broken:
		return api.Cell{}, api.ErrBroken
	case !there:
		return api.Cell{}, api.ErrNone
	}
	return c, api.OK
}

// picture is what that of a vnode is to be.
func (p *plain) picture() string {
	var b strings.Builder
	leaves := tree.New()
	for _, key := range slices.Sorted(maps.Keys(p.cells)) {
		fmt.Fprintf(&b, "%q %q ", key, cell.Bytes(p.cells[key]))
		leaves.Put(key, cell.Sum(p.cells[key]))
	}
	fmt.Fprintf(&b, "%d %x %d %s %v", len(p.cells), leaves.Root(), len(p.cells), shownDot(p.minted, "."), p.broken)
	return b.String()
}

func pick[T any](draw *rand.Rand, l ...T) T { return l[draw.Intn(len(l))] }

func drawnKey(draw *rand.Rand) string {
	return pick(draw, "a", "a", "b", "b", "c", "c", "dd", "\xff", long(255), "", long(256))
}

// kindOf is the kind that a key has as a rule, so that it is not mostly refused.
func kindOf(draw *rand.Rand, key string) int {
	if draw.Intn(12) == 0 {
		return draw.Intn(9) - 1
	}
	return 1 + len(key)*int(append([]byte(key), 0)[0])%6
}

func drawnUpdate(draw *rand.Rand, kind int) api.Update {
	c, s, m := api.Field{Kind: api.KindCounter, Name: "c"}, api.Field{Kind: api.KindSet, Name: "s"}, api.Field{Kind: api.KindMap, Name: "m"}
	element := pick(draw, "x", "y", "", long(1000), long(1001))
	l := map[int][]api.Update{
		api.KindObject:   {put("a"), put("b"), put(long(draw.Intn(20002))), put(long(draw.Intn(3000)))},
		api.KindCounter:  {add(1), add(-2), add(1 << 62)},
		api.KindFlag:     {op(api.OpEnable), op(api.OpEnable), op(api.OpDisable)},
		api.KindSet:      {insert(element), insert("x"), remove("x"), remove(element)},
		api.KindRegister: {assign("a", 1), assign("b", draw.Uint64()), assign(element, 2)},
		api.KindMap:      {in(add(5), c), in(add(1), m, c), in(insert(element), m, s), {Op: api.OpDrop, Kind: api.KindMap, S: "m"}, in(op(api.OpEnable), c)},
	}[kind]
	return pick(draw, append(l, op(api.OpDelete), add(1))...)
}

// twins are a vnode and a plain one, to which the same is done; cells are some that were told.
type twins struct {
	t     *testing.T
	draw  *rand.Rand
	v     *vnode.Vnode
	d     *files.Disk
	p     *plain
	cells []api.Keyed
}

func (w *twins) seen() []api.Clock {
	var l []api.Clock
	for range max(0, w.draw.Intn(5)-2) {
		l = append(l, pick(w.draw, nil, api.Clock{{Actor: actor(1), N: 1}}, pick(w.draw, append(w.cells, api.Keyed{})...).Cell.Clock))
	}
	return l
}

func (w *twins) update() (what string, got, want api.Errno) {
	key := drawnKey(w.draw)
	kind := kindOf(w.draw, key)
	u, seen := drawnUpdate(w.draw, kind), w.seen()
	what = fmt.Sprintf("Update(%.10q, %d, %d, %d)", key, kind, u.Op, len(seen))
	c, got := w.v.Update(key, kind, u, seen...)
	o, want := w.p.update(key, kind, u, seen)
	if shown(c) != shown(o) {
		w.t.Fatalf("%s: %.200s, want %.200s", what, shown(c), shown(o))
	}
	if got == api.OK {
		w.cells = append(w.cells, keyed(key, c))
	}
	return what, got, want
}

// join draws cells that were told once, what another node makes of them, and some that are not right.
func (w *twins) join() (what string, got, want api.Errno) {
	var l []api.Keyed
	for range w.draw.Intn(4) {
		key := drawnKey(w.draw)
		k := pick(w.draw, append(w.cells, keyed(key, cell.New(kindOf(w.draw, key))))...)
		for range w.draw.Intn(3) {
			if c, e := cell.Update(k.Cell, drawnUpdate(w.draw, k.Cell.Kind), clock.Next(k.Cell.Clock, clock.Actor(2, 3, 1))); e == api.OK {
				k.Cell = c
			}
		}
		if w.draw.Intn(20) == 0 {
			k.Cell.Clock = slices.Concat(k.Cell.Clock, k.Cell.Clock)
		}
		l = append(l, k)
	}
	return fmt.Sprintf("Join of %d", len(l)), w.v.Join(l...), w.p.join(l)
}

func (w *twins) tidy() (what string, got, want api.Errno) {
	n, got := w.v.Tidy()
	m, want := w.p.tidy()
	if n != m {
		w.t.Fatalf("Tidy: %d, want %d", n, m)
	}
	return "Tidy", got, want
}

func (w *twins) get() (what string, got, want api.Errno) {
	key := drawnKey(w.draw)
	c, got := w.v.Get(key)
	o, want := w.p.get(key)
	if shown(c) != shown(o) {
		w.t.Fatalf("Get(%.10q): %.200s, want %.200s", key, shown(c), shown(o))
	}
	return "Get", got, want
}

// call draws one, and tells what both say.
func (w *twins) call() (what string, got, want api.Errno) {
	switch kind := w.draw.Intn(30); {
	case kind < 13:
		return w.update()
	case kind < 18:
		return w.join()
	case kind < 21:
		keys := make([]string, w.draw.Intn(4))
		for i := range keys {
			keys[i] = drawnKey(w.draw)
		}
		return fmt.Sprintf("Remove(%.10q)", keys), w.v.Remove(keys...), w.p.remove(keys)
	case kind < 23:
		return w.tidy()
	case kind < 24:
		room := w.draw.Intn(80000)
		w.d.Limit(room)
		w.p.d.Limit(room)
		return fmt.Sprintf("Limit(%d)", room), 0, 0
	case kind < 25:
		steps := w.draw.Intn(20) - 2
		w.d.Arm(steps)
		w.p.d.Arm(steps)
		return fmt.Sprintf("Arm(%d)", steps), 0, 0
	case kind < 28 || !w.p.broken && w.draw.Intn(3) > 0:
		return w.get()
	}
	return w.open()
}

func (w *twins) open() (what string, got, want api.Errno) {
	picks := []int{w.draw.Intn(9000), w.draw.Intn(9000)}
	if w.draw.Intn(4) > 0 {
		w.d.Crash(picks...)
		w.p.d.Crash(picks...)
	}
	v, got := vnode.Open(w.d, 1, 3)
	p, want := openPlain(w.p.d, 1, 3)
	if got == api.OK && want == api.OK {
		w.v, w.p = v, p
	}
	return "Open", got, want
}

func TestAVnodeIsAsThePlainOne(t *testing.T) {
	for seed := range 150 {
		d, twin := files.New(300000), files.New(300000)
		p, e := openPlain(twin, 1, 3)
		ok(t, e)
		w := &twins{t, rand.New(rand.NewSource(int64(seed))), opened(t, d, 1, 3), d, p, nil}
		for i := range 80 {
			what, got, want := w.call()
			if got != want {
				t.Fatalf("seed %d, call %d: %s: %d, want %d", seed, i, what, int(got), int(want))
			}
			if got, want := picture(w.v), w.p.picture(); got != want {
				t.Fatalf("seed %d, behind call %d: %s: %.300s, want %.300s", seed, i, what, got, want)
			}
			if got, want := onDisk(w.d), onDisk(w.p.d); got != want {
				t.Fatalf("seed %d, behind call %d: %s: the disk is another one: %.300s, want %.300s", seed, i, what, got, want)
			}
		}
	}
}
