package wheel_test

import (
	"math"
	"math/rand"
	"strconv"
	"testing"

	"murmuration/wheel"
)

var few = []string{"", "a", "aa", "b", "c", "d", "e", "\xff"}

func picks(r *rand.Rand) []string {
	var names []string
	for range r.Intn(5) {
		names = append(names, few[r.Intn(len(few))])
	}
	return names
}

// drawnTime is mostly one of few, so that several meet in one; they rise and fall as they like.
func drawnTime(r *rand.Rand) int {
	if r.Intn(20) == 0 {
		return edges[r.Intn(len(edges))]
	}
	return r.Intn(9) - 3
}

// Drawn calls are answered as the chapter's words say of all that came before.
func TestDrawnCalls(t *testing.T) {
	for seed := range int64(300) {
		r := rand.New(rand.NewSource(seed))
		w, p := wheel.New(), &plain{}
		for range 100 {
			names, at := picks(r), drawnTime(r)
			switch r.Intn(6) {
			case 0, 1, 2:
				w.Set(at, names...)
				p.set(at, names...)
			case 3:
				is(t, "Cancel", w.Cancel(names...), p.cancel(names...))
			case 4, 5:
				is(t, "Due", w.Due(at), p.due(at))
			}
			p.holds(t, "seed "+strconv.FormatInt(seed, 10), w, few...)
		}
		is(t, "Due at the end", w.Due(math.MaxInt), p.due(math.MaxInt))
		p.holds(t, "at the end", w, few...)
	}
}

// P13.3

// Whoever is due was set since it was last due or cancelled, for a time that has come; and whose time has come is due.
func TestDueOnceAndNotAheadOfItsTime(t *testing.T) {
	for seed := range int64(300) {
		r := rand.New(rand.NewSource(seed))
		w, waits := wheel.New(), map[string]int{}
		for range 200 {
			names, at := picks(r), drawnTime(r)
			switch r.Intn(5) {
			case 0, 1:
				w.Set(at, names...)
				for _, name := range names {
					waits[name] = at
				}
			case 2:
				w.Cancel(names...)
				for _, name := range names {
					delete(waits, name)
				}
			case 3, 4:
				dueOf(t, w, waits, at)
			}
		}
		dueOf(t, w, waits, math.MaxInt)
		is(t, "who is left", len(waits), 0)
		is(t, "Len", w.Len(), 0)
	}
}

// dueOf takes those that are due from those that wait.
func dueOf(t *testing.T, w *wheel.Wheel, waits map[string]int, now int) {
	t.Helper()
	for _, name := range w.Due(now) {
		at, there := waits[name]
		is(t, name+" was set", there, true)
		is(t, name+" has its time", at <= now, true)
		delete(waits, name)
	}
	for name, at := range waits {
		is(t, name+" waits for a later time", at > now, true)
	}
}

// Times that stand, fall or go to and fro make nobody due twice.
func TestWhateverTheTimesTold(t *testing.T) {
	for what, times := range map[string][]int{
		"rising":     {-3, 0, 4, 5, 6, 7, 8, 9},
		"falling":    {9, 8, 7, 6, 5, 4, 0, -3},
		"standing":   {5, 5, 5, 9, 9, 9},
		"to and fro": {5, 3, 6, 2, 9, 1, 7},
		"the edges":  {math.MaxInt, math.MinInt, math.MaxInt, 0, math.MaxInt},
	} {
		w, n := wheel.New(), map[string]int{}
		w.Set(5, "a", "b")
		w.Set(7, "c")
		w.Set(9, "d")
		for _, now := range times {
			for _, name := range w.Due(now) {
				n[name]++
			}
		}
		for _, name := range []string{"a", "b", "c", "d"} {
			is(t, what+": how often "+name+" was due", n[name], 1)
		}
		is(t, what+": Len", w.Len(), 0)
	}
}

// Behind a Due of a late time a timer of an earlier one is due by its own time: the wheel keeps none that it was told.
func TestSetForATimeThatIsOver(t *testing.T) {
	w := wheel.New()
	w.Set(100, "a")
	is(t, "Due(100)", w.Due(100), []string{"a"})
	w.Set(5, "a")
	is(t, "Due(4)", w.Due(4), []string{})
	is(t, "Due(5)", w.Due(5), []string{"a"})
	w.Set(5, "a")
	is(t, "Due of a later time", w.Due(200), []string{"a"})
	is(t, "once more", w.Due(200), []string{})
	w.Set(200, "a")
	is(t, "set again, of the time that was told last", w.Due(200), []string{"a"})
}

// The same calls have the same answers.
func TestTheSameCallsHaveTheSameAnswers(t *testing.T) {
	run := func() [][]string {
		r := rand.New(rand.NewSource(13))
		w := wheel.New()
		var all [][]string
		for range 200 {
			w.Set(drawnTime(r), picks(r)...)
			w.Set(drawnTime(r), picks(r)...)
			w.Cancel(few[r.Intn(len(few))])
			all = append(all, w.Due(drawnTime(r)))
		}
		return all
	}
	first := run()
	for range 20 {
		is(t, "what was due", run(), first)
	}
}
