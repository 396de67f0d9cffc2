package cask_test

import (
	"fmt"
	"maps"
	"math/rand"
	"slices"
	"strings"
	"testing"

	"murmuration/api"
	"murmuration/cask"
	"murmuration/files"
)

// P4.5

// history is what was asked of casks of one name on one disk, one behind another.
type history struct {
	made   []api.Change // all changes there may be, in order; the last one may have no OK
	synced int          // so many of them a crash must leave
	sure   int          // so many of them had OK
}

// after is what Fold tells behind the first n changes.
func (h *history) after(n int) []api.Pair {
	values := map[string]string{}
	for _, c := range h.made[:n] {
		if c.Dead {
			delete(values, c.Key)
		} else {
			values[c.Key] = c.Value
		}
	}
	var l []api.Pair
	for _, key := range slices.Sorted(maps.Keys(values)) {
		l = append(l, api.Pair{Key: key, Value: values[key]})
	}
	return l
}

// change notes one that said e: of another error than OK and ErrPower nothing is there.
func (h *history) change(e api.Errno, c api.Change) {
	if e == api.OK || e == api.ErrPower {
		h.made = append(h.made, c)
	}
	if e == api.OK {
		h.sure = len(h.made)
	}
}

// opened holds a cask that was just opened behind a crash against all that may be: at most of the changes behind the last sync an end is gone.
func (h *history) opened(t *testing.T, what string, c *cask.Cask) {
	t.Helper()
	got := c.Fold()
	for n := len(h.made); n >= h.synced; n-- {
		if slices.Equal(got, h.after(n)) {
			h.made = h.made[:n]
			h.sure, h.synced = n, n
			return
		}
	}
	t.Fatalf("%s: %.300q is behind none of %d changes, of which %d were synced", what, got, len(h.made), h.synced)
}

// script makes changes and syncs in several segments, up to the first error but ErrNone. Some calls are to go wrong.
func script(h *history, c *cask.Cask) api.Errno {
	for i := range 36 {
		key, value := fmt.Sprint("k", i%5), fmt.Sprint(i, strings.Repeat("v", i%3*1500))
		var e api.Errno
		switch i % 6 {
		case 3:
			e = c.Delete(key)
			if e != api.ErrNone {
				h.change(e, api.Change{Key: key, Dead: true})
			}
		case 4:
			e = c.Sync()
			if e == api.OK {
				h.synced = len(h.made)
			}
		case 5:
			if i == 17 {
				e = c.Reopen()
				if e == api.OK {
					h.synced = len(h.made)
				}
			}
		default:
			e = c.Put(key, value)
			h.change(e, api.Change{Key: key, Value: value})
		}
		if e != api.OK && e != api.ErrNone {
			return e
		}
	}
	return api.OK
}

// stepsOf is how many steps the script takes where the power doesn't go.
func stepsOf(t *testing.T) int {
	t.Helper()
	d := large()
	c := opened(t, d, "v1")
	h := &history{}
	ok(t, script(h, c))
	if len(c.Segments()) < 4 || c.Dead() < 5 || c.Len() < 3 {
		t.Fatalf("the script is too short: %s", picture(c))
	}
	return d.Steps()
}

func TestThePowerGoesAtEachStep(t *testing.T) {
	steps := stepsOf(t)
	for ahead := range steps + 1 {
		for pick := range 40 {
			what := fmt.Sprintf("armed with %d, pick %d", ahead, pick)
			d := large()
			h := &history{}
			c := opened(t, d, "v1")
			d.Arm(ahead)
			if e := script(h, c); (e == api.ErrPower) != (ahead < steps) || c.Broken() != (ahead < steps) {
				t.Fatalf("%s: %d, broken %v", what, int(e), c.Broken())
			}
			if got := c.Fold(); !slices.Equal(got, h.after(h.sure)) {
				t.Fatalf("%s: ahead of the crash %.200q, want %.200q", what, got, h.after(h.sure))
			}
			d.Crash(3 * pick * pick)
			again := opened(t, d, "v1")
			h.opened(t, what, again)
			// What is there now stays, and it goes on.
			d.Crash()
			c = opened(t, d, "v1")
			if picture(c) != picture(again) {
				t.Fatalf("%s: opened again: %.200s, want %.200s", what, picture(c), picture(again))
			}
			ok(t, c.Put("new", "one"), c.Sync())
			h.change(api.OK, api.Change{Key: "new", Value: "one"})
			h.synced = len(h.made)
			d.Crash()
			h.opened(t, what+", gone on", opened(t, d, "v1"))
		}
	}
}

func TestARecordIsThereWholeOrNot(t *testing.T) {
	record := put("b", "twenty bytes or more")
	for pick := range len(record) + 1 {
		d := large()
		c := opened(t, d, "v1")
		ok(t, c.Put("a", "1"), c.Sync())
		d.Arm(0)
		said(t, "Put", c.Put("b", "twenty bytes or more"), api.ErrPower)
		has(t, c, "a", "1")
		d.Crash(pick)
		holds(t, d, "v1.000001", put("a", "1")+record[:pick])
		c = opened(t, d, "v1")
		if pick < len(record) {
			has(t, c, "a", "1")
		} else {
			has(t, c, "a", "1", "b", "twenty bytes or more")
		}
		// The next record stands in a segment of its own, not behind what is left.
		ok(t, c.Put("c", "3"), c.Sync())
		holds(t, d, "v1.000001", put("a", "1")+record[:pick])
		holds(t, d, "v1.000002", put("c", "3"))
		gets(t, opened(t, d, "v1"), "c", "3", api.OK)
	}
}

func TestThePowerGoesAmongSeveralKeys(t *testing.T) {
	for ahead := range 4 {
		d := large()
		c := opened(t, d, "v1")
		ok(t, c.Put("a", "1"), c.Put("b", "2"), c.Put("c", "3"), c.Sync())
		d.Arm(ahead)
		want := api.ErrPower
		if ahead == 3 {
			want = api.OK
		}
		said(t, "Delete", c.Delete("b", "c", "a"), want)
		left := [][]string{{"a", "1", "b", "2", "c", "3"}, {"a", "1", "c", "3"}, {"a", "1"}, {}}
		has(t, c, left[ahead]...)
		d.Crash(ahead * len(gone("a")))
		has(t, opened(t, d, "v1"), left[ahead]...)
	}
}

func TestANewSegmentOfNoBytes(t *testing.T) {
	d := large()
	c := opened(t, d, "v1")
	ok(t, c.Put("k", sized(4096)), c.Sync())
	for i := 2; i < 6; i++ {
		d.Arm(0)
		said(t, "Put", c.Put("b", "2"), api.ErrPower)
		d.Crash()
		c = opened(t, d, "v1")
		has(t, c, "k", sized(4096))
		if s := c.Segments(); len(s) != i {
			t.Errorf("%v, want 1 to %d", s, i)
		}
	}
}

// The calls of many sessions, drawn

func TestDrawnCallsAndCrashes(t *testing.T) {
	for seed := range 400 {
		draw := rand.New(rand.NewSource(int64(seed)))
		d := files.New(30000)
		h := &history{}
		for session := range 12 {
			what := fmt.Sprintf("seed %d, session %d", seed, session)
			c, e := cask.Open(d, "v1")
			if e != api.OK {
				t.Fatalf("%s: Open: %d", what, int(e))
			}
			h.opened(t, what, c)
			d.Arm(draw.Intn(20))
			calls(h, c, draw)
			for d.On() && draw.Intn(3) == 0 {
				c, e = cask.Open(d, "v1")
				if e != api.OK {
					break
				}
				h.synced = len(h.made)
				calls(h, c, draw)
			}
			d.Crash(draw.Intn(6000), draw.Intn(6000))
		}
	}
}

// calls draws some, up to one that breaks the cask.
func calls(h *history, c *cask.Cask, draw *rand.Rand) {
	for range draw.Intn(40) {
		key := string(rune('a' + draw.Intn(6)))
		switch draw.Intn(8) {
		case 0:
			if e := c.Delete(key); e == api.OK || e == api.ErrPower {
				h.change(e, api.Change{Key: key, Dead: true})
			}
		case 1:
			if c.Sync() == api.OK {
				h.synced = len(h.made)
			}
		case 2:
			if draw.Intn(4) == 0 && c.Reopen() == api.OK {
				h.synced = len(h.made)
			}
		default:
			value := strings.Repeat(key, draw.Intn(3)*draw.Intn(900)) + fmt.Sprint(draw.Intn(100))
			h.change(c.Put(key, value), api.Change{Key: key, Value: value})
		}
		if c.Broken() {
			return
		}
	}
}
