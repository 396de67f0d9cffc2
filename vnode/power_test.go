package vnode_test

import (
	"fmt"
	"math/rand"
	"testing"

	"murmuration/api"
	"murmuration/cell"
	"murmuration/clock"
	"murmuration/files"
	"murmuration/vnode"
)

// P15.5

// maybe is what a call that has not said OK may have made of a key: it is asked of what was there, and what is there now.
type maybe func(was, now api.Cell) bool

// history is what was asked of the vnodes of one partition on one disk, one behind another.
type history struct {
	t     *testing.T
	what  string
	sure  map[string]api.Cell // what the last call that said OK has left of each key
	maybe map[string]maybe
	told  map[string]map[api.Dot]struct{}
}

func begun(t *testing.T, what string) *history {
	return &history{t, what, map[string]api.Cell{}, map[string]maybe{}, map[string]map[api.Dot]struct{}{}}
}

// update says whether it may go on.
func (h *history) update(v *vnode.Vnode, key string, kind int, u api.Update, seen ...api.Clock) bool {
	h.t.Helper()
	c, e := v.Update(key, kind, u, seen...)
	switch e {
	case api.OK:
		h.mint(key, v.Minted())
		h.sure[key] = c
	case api.ErrPower:
		h.maybe[key] = func(was, now api.Cell) bool {
			if was.Kind == 0 {
				was = cell.New(kind)
			}
			for _, d := range now.Clock {
				if next, e := cell.Update(was, u, d, seen...); e == api.OK && cell.Same(next, now) {
					node, partition, _ := clock.Parts(d.Actor)
					return node == 1 && partition == 3
				}
			}
			return false
		}
	}
	return !v.Broken()
}

// mint notes a dot that was told: of a key no other one was.
func (h *history) mint(key string, d api.Dot) {
	h.t.Helper()
	if h.told[key] == nil {
		h.told[key] = map[api.Dot]struct{}{}
	}
	if _, twice := h.told[key][d]; twice {
		h.t.Fatalf("%s: %s of %q was told twice", h.what, shownDot(d, "."), key)
	}
	h.told[key][d] = struct{}{}
}

// join is of cells that may be joined.
func (h *history) join(v *vnode.Vnode, l ...api.Keyed) bool {
	e := v.Join(l...)
	for _, k := range l {
		switch e {
		case api.OK:
			h.sure[k.Key] = cell.Join(h.sure[k.Key], k.Cell)
		case api.ErrPower:
			h.maybe[k.Key] = func(was, now api.Cell) bool { return cell.Same(cell.Join(was, k.Cell), now) }
		case api.ErrFull:
			// Some of them are joined, and firm.
			if c, e := v.Get(k.Key); e == api.OK {
				h.sure[k.Key] = c
			}
		}
	}
	return !v.Broken()
}

func (h *history) remove(v *vnode.Vnode, keys ...string) bool {
	e := v.Remove(keys...)
	for _, key := range keys {
		if e == api.ErrPower {
			h.maybe[key] = func(was, now api.Cell) bool { return now.Kind == 0 }
		} else if _, e := v.Get(key); e == api.ErrNone {
			delete(h.sure, key)
		}
	}
	return !v.Broken()
}

func (h *history) tidy(v *vnode.Vnode) bool {
	v.Tidy()
	return !v.Broken()
}

// opened opens a vnode behind a crash, and holds it against all that may be; what is there now is sure.
func (h *history) opened(d *files.Disk) *vnode.Vnode {
	h.t.Helper()
	v, e := vnode.Open(d, 1, 3)
	if e != api.OK {
		h.t.Fatalf("%s: Open: %d", h.what, int(e))
	}
	now := map[string]api.Cell{}
	for _, k := range v.Fold() {
		now[k.Key] = k.Cell
	}
	for _, key := range keysOf(h.sure, now) {
		was, is := h.sure[key], now[key]
		if !cell.Same(was, is) && (h.maybe[key] == nil || !h.maybe[key](was, is)) {
			h.t.Fatalf("%s: %q is %.200s, was %.200s", h.what, key, shown(is), shown(was))
		}
	}
	h.sure, h.maybe = now, map[string]maybe{}
	return v
}

// keysOf are those of all these, some of them more than once.
func keysOf(l ...map[string]api.Cell) []string {
	var keys []string
	for _, m := range l {
		for key := range m {
			keys = append(keys, key)
		}
	}
	return keys
}

// script has all that changes a vnode, up to a call that breaks it.
func script(t *testing.T, h *history, v *vnode.Vnode) bool {
	t.Helper()
	other := elsewhere(t, 2, api.KindObject, put("x"), put(long(1500)))
	set := elsewhere(t, 3, api.KindSet, insert("y"))
	a, _ := v.Get("a")
	for _, call := range []func() bool{
		func() bool { return h.update(v, "a", api.KindObject, put("1")) },
		func() bool { return h.update(v, "b", api.KindSet, insert("x")) },
		func() bool { return h.update(v, "a", api.KindObject, put("2"), a.Clock) },
		func() bool { return h.join(v, keyed("b", set), keyed("c", other), keyed("a", other)) },
		func() bool { return h.update(v, "c", api.KindObject, put("3")) },
		func() bool { return h.remove(v, "c", "b") },
		func() bool { return h.update(v, "b", api.KindSet, insert("z")) },
		func() bool { return h.join(v, keyed("b", set), keyed("c", other)) },
		func() bool { return h.update(v, "a", api.KindObject, op(api.OpDelete)) },
		func() bool { return h.remove(v, "c") },
		func() bool { return h.tidy(v) },
		func() bool { return h.update(v, "c", api.KindCounter, add(1)) },
		func() bool { return h.remove(v, "c", "a") },
	} {
		if !call() {
			return false
		}
	}
	return true
}

func TestThePowerGoesAtEachStep(t *testing.T) {
	// The first round leaves a vnode that is worn, so that the second one has something to tidy.
	v, whole := fresh(t)
	h := begun(t, "the first round")
	worn(t, v, 17)
	script(t, h, v)
	h.remove(v, "k")
	ahead := whole.Steps()
	script(t, h, h.opened(whole))
	steps := whole.Steps() - ahead
	if steps < 30 {
		t.Fatalf("the script is too short: %d steps", steps)
	}
	for k := range steps + 1 {
		for i := range 12 {
			h := begun(t, fmt.Sprintf("step %d, pick %d", k, i))
			d := large()
			v := opened(t, d, 1, 3)
			worn(t, v, 17)
			for n := range uint64(18) {
				h.mint("k", api.Dot{Actor: actor(1), N: n + 1})
			}
			h.sure["k"], _ = v.Get("k")
			script(t, h, v)
			h.remove(v, "k")
			d.Arm(k)
			if v, e := vnode.Open(d, 1, 3); e == api.OK {
				script(t, h, v)
			} else if e != api.ErrPower || v != nil {
				t.Fatalf("%s: Open: %d", h.what, int(e))
			}
			d.Crash(7*i*i, 11*i)
			// The power goes again while it is opened, step by step.
			for again := range 4 {
				d.Arm(again)
				if v, e := vnode.Open(d, 1, 3); (e != api.OK || v == nil) && (e != api.ErrPower || v != nil) {
					t.Fatalf("%s: Open again: %d", h.what, int(e))
				}
				d.Crash(i)
			}
			v = h.opened(d)
			if !script(t, h, v) {
				t.Fatalf("%s: it does not go on", h.what)
			}
			d.Crash()
			h.opened(d)
		}
	}
}

// calls draws some, up to one that breaks the vnode.
func calls(h *history, v *vnode.Vnode, draw *rand.Rand) {
	for range draw.Intn(25) {
		key := pick(draw, "a", "b", "c", "d")
		kind := 1 + int(key[0])%6
		going := true
		switch draw.Intn(10) {
		case 0, 1:
			going = h.remove(v, key)
		case 2:
			going = h.remove(v, "a", "b")
		case 3, 4:
			// Another node's own cell, and what comes back of this one's.
			c := elsewhere(h.t, 2+draw.Intn(2), kind, op(api.OpDelete))
			if had, e := v.Get(key); e == api.OK {
				c = cell.Join(c, had)
			}
			going = h.join(v, keyed(key, c))
		case 5:
			going = h.tidy(v)
		default:
			going = h.update(v, key, kind, pick(draw, drawnUpdate(draw, kind), op(api.OpDelete)))
		}
		if !going {
			return
		}
	}
}

func TestDrawnCallsAndCrashes(t *testing.T) {
	for seed := range 200 {
		draw := rand.New(rand.NewSource(int64(seed)))
		d := files.New(40000)
		h := begun(t, "")
		for session := range 12 {
			h.what = fmt.Sprintf("seed %d, session %d", seed, session)
			for range draw.Intn(3) {
				d.Arm(draw.Intn(3))
				vnode.Open(d, 1, 3)
				d.Crash(draw.Intn(6000), draw.Intn(6000))
			}
			v := h.opened(d)
			d.Arm(draw.Intn(60))
			d.Limit(20000 + draw.Intn(100000))
			calls(h, v, draw)
			d.Crash(draw.Intn(6000), draw.Intn(6000))
		}
	}
}
