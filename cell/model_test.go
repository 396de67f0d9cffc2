package cell_test

import (
	"fmt"
	"math/rand"
	"slices"
	"testing"

	"murmuration/api"
	"murmuration/cell"
	"murmuration/clock"
	"murmuration/kinds"
	"murmuration/store"
)

// P9.1 once more, by nothing but its words

func normed(c api.Cell) api.Cell {
	return api.Cell{Kind: c.Kind, Clock: clock.Norm(c.Clock), Store: store.Norm(c.Store)}
}

func coversAll(c api.Clock, l []api.Dot) bool {
	return !slices.ContainsFunc(l, func(d api.Dot) bool { return d.N > 0 && !clock.Covers(c, d) })
}

// hasSeen is what an update has seen.
func hasSeen(c api.Cell, u api.Update, said []api.Clock) api.Clock {
	if len(said) == 0 && (c.Kind != api.KindObject || u.Op == api.OpDelete) {
		return c.Clock
	}
	return clock.Merge(said...)
}

func byTheWords(c api.Cell, x step) (api.Cell, api.Errno) {
	c = normed(c)
	saw := hasSeen(c, x.u, x.seen)
	if e := kinds.Check(c.Kind, x.u); e != api.OK {
		return api.Cell{}, e
	}
	if x.dot.N == 0 || clock.Covers(c.Clock, x.dot) {
		return api.Cell{}, api.ErrArg
	}
	if c.Kind != api.KindObject && !coversAll(c.Clock, saw) {
		return api.Cell{}, api.ErrContext
	}
	s, _ := kinds.Apply(c.Kind, c.Store, saw, x.dot, x.u)
	return api.Cell{Kind: c.Kind, Clock: clock.Add(clock.Merge(c.Clock, saw), x.dot), Store: s}, api.OK
}

func drawnStep(draw *rand.Rand, c api.Cell) step {
	kind := c.Kind
	if draw.Intn(8) == 0 {
		kind = 1 + draw.Intn(6)
	}
	x := step{dot: drawnDot(draw), u: pick(draw, updates(kind)...)}
	for range draw.Intn(4) {
		saw := drawnClock(draw)
		if draw.Intn(2) == 0 {
			saw = slices.DeleteFunc(saw, func(d api.Dot) bool { return !clock.Covers(c.Clock, d) })
		}
		x.seen = append(x.seen, saw)
	}
	return x
}

func TestUpdateByTheWords(t *testing.T) {
	draw := rand.New(rand.NewSource(2))
	count := map[api.Errno]int{}
	for range 20000 {
		c := drawn(draw, 3)
		x := drawnStep(draw, c)
		got, e := cell.Update(c, x.u, x.dot, x.seen...)
		want, wantE := byTheWords(c, x)
		if told(got) != told(want) || e != wantE {
			t.Fatalf("Update of %s, %v: %s, %d, want %s, %d", told(c), x, told(got), int(e), told(want), int(wantE))
		}
		count[e]++
	}
	for _, e := range []api.Errno{api.OK, api.ErrArg, api.ErrKind, api.ErrContext} {
		if count[e] < 100 {
			t.Errorf("%d of the updates say %d", count[e], int(e))
		}
	}
}

// Each call takes a cell as its Norm.
func TestTheNorm(t *testing.T) {
	draw := rand.New(rand.NewSource(3))
	for range 4000 {
		c, o := drawn(draw, 3), drawn(draw, 3)
		if draw.Intn(2) == 0 {
			o.Kind = c.Kind
		}
		c, o = normed(c), normed(o)
		d := disordered(draw, c)
		is(t, "Join", cell.Join(d, o), told(cell.Join(c, o)))
		is(t, "Join, the other way round", cell.Join(o, d), told(cell.Join(o, c)))
		tells(t, "Tell", d, cell.Tell(c))
		if cell.Dead(d) != cell.Dead(c) || !cell.Same(c, d) || !cell.Same(d, c) || cell.Same(d, o) != cell.Same(c, o) {
			t.Errorf("Dead or Same of %s", told(d))
		}
		if cell.Bytes(d) != cell.Bytes(c) || cell.Sum(d) != cell.Sum(c) {
			t.Errorf("Bytes or Sum of %s", told(d))
		}
		x := drawnStep(draw, c)
		got, e := cell.Update(d, x.u, x.dot, x.seen...)
		want, wantE := cell.Update(c, x.u, x.dot, x.seen...)
		if told(got) != told(want) || e != wantE {
			t.Errorf("Update of %s: %s, %d, want %s, %d", told(d), told(got), int(e), told(want), int(wantE))
		}
	}
}

func TestReadOfDrawnCells(t *testing.T) {
	draw := rand.New(rand.NewSource(4))
	for range 4000 {
		c := drawnRight(draw, 4)
		got, e := cell.Read(cell.Bytes(c))
		is(t, "Read", got, told(c))
		if e != api.OK || cell.Bytes(c) != laid(c) || !cell.Right(c) {
			t.Errorf("Read of %s: %d", told(c), int(e))
		}
		o := drawn(draw, 4)
		right := o.Kind > 0 && o.Kind < 7 && told(o) == told(normed(o)) && coversAll(o.Clock, store.Dots(o.Store))
		if cell.Right(o) != right {
			t.Errorf("Right(%s): %v", told(o), !right)
		}
	}
}

// P9.4

// event is an update with its dot, and what it had seen.
type event struct {
	dot  api.Dot
	u    api.Update
	seen api.Clock
}

// moment is what some replica had at some time: its cell, and by bits which events were visible to it.
type moment struct {
	cell    api.Cell
	visible uint64
}

type world struct {
	kind     int
	events   []event
	replicas []moment
	past     []moment
}

// reach is the path of what an update puts into and takes away from.
func reach(u api.Update) []api.Field {
	path := slices.Clone(u.Path)
	switch u.Op {
	case api.OpInsert, api.OpRemove:
		path = append(path, field(0, u.S))
	case api.OpDrop:
		path = append(path, field(u.Kind, u.S))
	}
	return path
}

// takes tells whether an event takes another one's entry away.
func takes(y, x event) bool {
	of := reach(x.u)
	for i, f := range reach(y.u) {
		if i >= len(of) || f.Kind != of[i].Kind || f.Name != of[i].Name {
			return false
		}
	}
	return y.u.Op != api.OpAdd && clock.Covers(y.seen, x.dot)
}

// left are those of the events whose entries none of them has taken away, by rising dots.
func left(l []event) []event {
	var there []event
	for _, x := range l {
		if kinds.Mints(x.u.Op) && !slices.ContainsFunc(l, func(y event) bool { return takes(y, x) }) {
			there = append(there, x)
		}
	}
	slices.SortFunc(there, func(a, b event) int {
		if a.dot.Actor < b.dot.Actor || a.dot.Actor == b.dot.Actor && a.dot.N < b.dot.N {
			return -1
		}
		return 1
	})
	return there
}

func (w *world) visibleTo(m moment) []event {
	var l []event
	for i, x := range w.events {
		if m.visible>>i&1 == 1 {
			l = append(l, x)
		}
	}
	return l
}

// specified is the cell that events make, by nothing but which they are.
func specified(kind int, l []event) api.Cell {
	c := api.Cell{Kind: kind}
	for _, x := range l {
		c.Clock = clock.Add(c.Clock, x.dot)
	}
	for _, x := range left(l) {
		e := api.Entry{Dot: x.dot}
		switch x.u.Op {
		case api.OpPut, api.OpAssign:
			e.S, e.T = x.u.S, x.u.T
		case api.OpAdd:
			e.N = x.u.N
		}
		c.Store = store.Put(c.Store, e, reach(x.u)...)
	}
	return c
}

// specifiedValue is what the events tell, of a kind other than a map's.
func specifiedValue(kind int, l []event) api.Value {
	v := api.Value{Kind: kind}
	last := uint64(0)
	for _, x := range left(l) {
		switch kind {
		case api.KindObject, api.KindSet:
			v.L = append(v.L, x.u.S)
		case api.KindCounter:
			v.N += x.u.N
		case api.KindFlag:
			v.B = true
		case api.KindRegister:
			if x.u.T >= last {
				last, v.B, v.S = x.u.T, true, x.u.S
			}
		}
	}
	if kind == api.KindSet {
		slices.Sort(v.L)
		v.L = slices.Compact(v.L)
	}
	return v
}

func (w *world) holds(t *testing.T, m moment) {
	t.Helper()
	l := w.visibleTo(m)
	want := specified(w.kind, l)
	if told(m.cell) != told(want) || !cell.Right(m.cell) {
		t.Fatalf("behind %v: %s, want %s", l, told(m.cell), told(want))
	}
	if w.kind != api.KindMap {
		tells(t, "what the specification says", m.cell, specifiedValue(w.kind, l))
	}
	tells(t, "what the specification's cell tells", m.cell, cell.Tell(want))
	if cell.Dead(m.cell) != (len(left(l)) == 0) {
		t.Errorf("Dead(%s)", told(m.cell))
	}
}

// happen is an event at a replica, by one of two actors that are its own; what is said to be seen was some replica's clock.
func (w *world) happen(t *testing.T, draw *rand.Rand, at int) {
	m := w.replicas[at]
	d := clock.Next(m.cell.Clock, uint64(2*at+draw.Intn(2)))
	d.N += pick[uint64](draw, 0, 0, 0, 2)
	u := pick(draw, updates(w.kind)...)
	var said []api.Clock
	visible := m.visible | 1<<len(w.events)
	for range pick(draw, 0, 0, 1, 1, 2, 3) {
		then := pick(draw, w.past...)
		said = append(said, then.cell.Clock)
		if w.kind == api.KindObject {
			visible |= then.visible
		}
	}
	saw := hasSeen(m.cell, u, said)
	got, e := cell.Update(m.cell, u, d, said...)
	if w.kind != api.KindObject && !coversAll(m.cell.Clock, saw) {
		if e != api.ErrContext {
			t.Fatalf("a context ahead: %d", int(e))
		}
		return
	}
	if e != api.OK {
		t.Fatalf("Update of %s by %v: %d", told(m.cell), d, int(e))
	}
	w.events = append(w.events, event{d, u, saw})
	w.set(t, at, moment{got, visible})
}

func (w *world) set(t *testing.T, at int, m moment) {
	w.holds(t, m)
	w.replicas[at] = m
	w.past = append(w.past, m)
}

func joined(a, b moment) moment { return moment{cell.Join(a.cell, b.cell), a.visible | b.visible} }

func drawnWorld(t *testing.T, draw *rand.Rand, kind int) *world {
	w := &world{kind: kind}
	for range 4 {
		w.replicas = append(w.replicas, moment{cell: cell.New(kind)})
	}
	w.past = slices.Clone(w.replicas)
	for range 10 + draw.Intn(30) {
		at := draw.Intn(len(w.replicas))
		if draw.Intn(3) > 0 {
			w.happen(t, draw, at)
			continue
		}
		// What comes from another replica may be old.
		w.set(t, at, joined(w.replicas[at], pick(draw, w.past...)))
	}
	return w
}

func TestWhatFollows(t *testing.T) {
	draw := rand.New(rand.NewSource(5))
	for i := range 900 {
		w := drawnWorld(t, draw, 1+i%6)
		same := map[uint64]string{}
		for _, m := range w.past {
			if was, is := same[m.visible]; is && was != cell.Bytes(m.cell) {
				t.Fatalf("two cells of the same visible events, one of them %s", told(m.cell))
			}
			same[m.visible] = cell.Bytes(m.cell)
		}
		first := grouped(draw, w.past)
		w.holds(t, first)
		for range 3 {
			o := grouped(draw, w.past)
			if !cell.Same(o.cell, first.cell) || cell.Bytes(o.cell) != cell.Bytes(first.cell) || cell.Sum(o.cell) != cell.Sum(first.cell) {
				t.Fatalf("joined otherwise: %s, want %s", told(o.cell), told(first.cell))
			}
		}
	}
}

// grouped joins all, in some order, by some grouping, some of them twice.
func grouped(draw *rand.Rand, l []moment) moment {
	l = slices.Clone(l)
	mix(draw, l)
	for len(l) > 1 {
		i := draw.Intn(len(l) - 1)
		both := joined(l[i], l[i+1])
		if draw.Intn(4) == 0 {
			both = joined(both, l[i+draw.Intn(2)])
		}
		l[i] = both
		l = slices.Delete(l, i+1, i+2)
	}
	return l[0]
}

// Joining, of any right cells, of unlike Kinds, too.
func TestJoiningHangsOnNoOrder(t *testing.T) {
	draw := rand.New(rand.NewSource(6))
	for range 4000 {
		a, b, c := drawnRight(draw, 3), drawnRight(draw, 3), drawnRight(draw, 3)
		if draw.Intn(2) == 0 {
			b.Kind, c.Kind = a.Kind, pick(draw, a.Kind, c.Kind)
		}
		ab := cell.Join(a, b)
		is(t, "the other way round", cell.Join(b, a), told(ab))
		is(t, "another grouping", cell.Join(a, cell.Join(b, c)), told(cell.Join(ab, c)))
		is(t, "one with itself", cell.Join(a, a), told(a))
		is(t, "one once more", cell.Join(ab, b), told(ab))
		is(t, "one once more, ahead", cell.Join(a, ab), told(ab))
		is(t, "a cell with nothing", cell.Join(a, cell.New(a.Kind)), told(a))
		if !cell.Right(ab) {
			t.Errorf("Join of %s and %s is not right: %s", told(a), told(b), told(ab))
		}
	}
}

// R3

func TestMemory(t *testing.T) {
	draw := rand.New(rand.NewSource(7))
	for range 4000 {
		a, b := drawn(draw, 3), drawn(draw, 3)
		if draw.Intn(2) == 0 {
			a, b = drawnRight(draw, 3), drawnRight(draw, 3)
		}
		b.Kind = pick(draw, a.Kind, a.Kind, b.Kind)
		x := drawnStep(draw, a)
		all := func() string { return told(a) + told(b) + fmt.Sprint(x) }
		was := all()
		calls := func() []api.Cell {
			next, _ := cell.Update(a, x.u, x.dot, x.seen...)
			back, _ := cell.Read(cell.Bytes(a))
			return []api.Cell{next, cell.Join(a, b), cell.Join(b, a), cell.Join(a, a), back}
		}
		first, second := calls(), calls()
		wasFirst := fmt.Sprint(first)
		value := cell.Tell(a)
		wasValue := fmt.Sprint(value)
		cell.Dead(a)
		cell.Right(a)
		cell.Same(a, b)
		cell.Sum(a)
		for _, c := range second {
			scribble(c)
		}
		if all() != was {
			t.Fatalf("what was handed in: %s, it was %s", all(), was)
		}
		scribble(a)
		scribble(b)
		scribbleStore(api.Store{Fields: x.u.Path})
		for _, c := range x.seen {
			scribbleClock(c)
		}
		clear(x.seen)
		if fmt.Sprint(first) != wasFirst || fmt.Sprint(value) != wasValue {
			t.Fatalf("what was told: %v, %v, it was %s, %s", first, value, wasFirst, wasValue)
		}
	}
}

// No two lists of one answer share memory: what is done to one, up to all that it has room for, is not seen in the others.
func TestListsOfOneAnswerAreApart(t *testing.T) {
	draw := rand.New(rand.NewSource(8))
	for range 2000 {
		a, b := drawnRight(draw, 3), drawnRight(draw, 3)
		b.Kind = pick(draw, a.Kind, b.Kind)
		for _, c := range []api.Cell{cell.Join(a, b), done(t, a, step{dot: api.Dot{Actor: 50, N: 1}, u: pick(draw, updates(a.Kind)...)})} {
			was := toldStore(c.Store)
			scribbleClock(c.Clock)
			if toldStore(c.Store) != was {
				t.Errorf("the Clock's owner changed the Store: %s, it was %s", toldStore(c.Store), was)
			}
		}
	}
}
