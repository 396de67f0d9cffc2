package wheel_test

import (
	"math"
	"slices"
	"strconv"
	"strings"
	"testing"

	"murmuration/wheel"
)

// edges are times at the ends of what there are, and about 0, rising.
var edges = []int{math.MinInt, math.MinInt + 1, -1 << 32, -1, 0, 1, 1 << 32, math.MaxInt - 1, math.MaxInt}

// oddNames are names that are beginnings of one another, no runes, long, or none.
var oddNames = []string{"", "a", "aa", "a\x00", "\x00", "\xff", "\x80", "\xc3\xa4", "A", " ", strings.Repeat("n", 1<<16), strings.Repeat("n", 1<<16) + "m"}

// numbers are the names from 0 to n - 1.
func numbers(n int) []string {
	var names []string
	for i := range n {
		names = append(names, strconv.Itoa(i))
	}
	return names
}

// The chapter's examples

func TestExamples(t *testing.T) {
	w := wheel.New()
	w.Set(5, "a", "b")
	w.Set(3, "c")
	w.Set(7, "a")
	is(t, "Next", answer(w.Next()), told{3, true})
	is(t, "Due(5)", w.Due(5), []string{"c", "b"})
	is(t, "Due(6)", w.Due(6), []string{})
	is(t, "Due(9)", w.Due(9), []string{"a"})
	is(t, "Len", w.Len(), 0)

	w = wheel.New()
	w.Set(1, "x")
	is(t, "Cancel", w.Cancel("x", "y"), 1)
	is(t, "Due behind Cancel", w.Due(9), []string{})
}

// P13.1

func TestNew(t *testing.T) {
	(&plain{}).holds(t, "New", wheel.New(), "", "a")
	one, other := wheel.New(), wheel.New()
	one.Set(1, "a")
	(&plain{}).holds(t, "New beside another one", other, "", "a")
	is(t, "Due of another one", other.Due(math.MaxInt), []string{})
	is(t, "Due", one.Due(math.MaxInt), []string{"a"})
}

func TestSet(t *testing.T) {
	type call struct {
		at    int
		names string
	}
	for what, c := range map[string]struct {
		calls []call
		len   int
		due   string
	}{
		"one":                               {[]call{{5, "a"}}, 1, "a"},
		"two at once":                       {[]call{{5, "b a"}}, 2, "b a"},
		"two of one time, one by one":       {[]call{{5, "b"}, {5, "a"}}, 2, "b a"},
		"the later one first":               {[]call{{6, "a"}, {5, "b"}}, 2, "b a"},
		"anew, at another time":             {[]call{{5, "a"}, {9, "a"}}, 1, "a"},
		"anew, earlier than another one":    {[]call{{5, "b"}, {9, "a"}, {4, "a"}}, 2, "a b"},
		"anew, later than another one":      {[]call{{4, "a"}, {5, "b"}, {9, "a"}}, 2, "b a"},
		"anew, at the same time":            {[]call{{5, "a b c"}, {5, "a"}}, 3, "b c a"},
		"anew, at the time of others":       {[]call{{4, "a"}, {5, "b c"}, {5, "a"}}, 3, "b c a"},
		"all anew, in another order":        {[]call{{5, "a b c"}, {5, "c a b"}}, 3, "c a b"},
		"there and back":                    {[]call{{5, "a b"}, {6, "a"}, {5, "a"}}, 2, "b a"},
		"a name twice in one call":          {[]call{{5, "a b a"}}, 2, "b a"},
		"a name three times":                {[]call{{5, "a a b a c"}}, 3, "b a c"},
		"names twice that are there":        {[]call{{5, "a b c"}, {5, "b a b"}}, 3, "c a b"},
		"the last of all":                   {[]call{{5, "a b"}, {5, "b"}}, 2, "a b"},
		"among times that stand both sides": {[]call{{9, "d"}, {1, "a"}, {5, "c"}, {5, "b"}, {9, "e"}}, 5, "a c b d e"},
	} {
		w := wheel.New()
		for _, one := range c.calls {
			w.Set(one.at, strings.Fields(one.names)...)
		}
		is(t, what+": Len", w.Len(), c.len)
		is(t, what+": Due", w.Due(9), strings.Fields(c.due))
		is(t, what+": Len behind Due", w.Len(), 0)
	}
}

func TestSetOfNoNames(t *testing.T) {
	w, want := wheel.New(), &plain{}
	w.Set(3)
	w.Set(math.MinInt, []string{}...)
	want.holds(t, "no names", w, "")
	w.Set(5, "a")
	want.set(5, "a")
	w.Set(3)
	want.holds(t, "no names beside a timer", w, "", "a")
}

func TestANameHasOneTimer(t *testing.T) {
	w := wheel.New()
	for _, at := range []int{5, 3, 9, 9, 3, math.MaxInt, math.MinInt, 7} {
		w.Set(at, "a")
		is(t, "Len", w.Len(), 1)
		is(t, "At", answer(w.At("a")), told{at, true})
		is(t, "Next", answer(w.Next()), told{at, true})
	}
	is(t, "Due ahead of its newest time", w.Due(6), []string{})
	is(t, "Due", w.Due(7), []string{"a"})
	is(t, "Due of all times", w.Due(math.MaxInt), []string{})
}

func TestCancel(t *testing.T) {
	for what, c := range map[string]struct {
		gone string
		n    int
		due  string
	}{
		"no name":                       {"", 0, "a b c d"},
		"one that isn't there":          {"e", 0, "a b c d"},
		"several that aren't there":     {"e f e", 0, "a b c d"},
		"one":                           {"b", 1, "a c d"},
		"the first":                     {"a", 1, "b c d"},
		"the last":                      {"d", 1, "a b c"},
		"one twice":                     {"b b", 1, "a c d"},
		"two":                           {"c a", 2, "b d"},
		"two, each twice":               {"c a a c", 2, "b d"},
		"one behind one that is none":   {"e b", 1, "a c d"},
		"one ahead of one that is none": {"b e", 1, "a c d"},
		"all":                           {"d c b a", 4, ""},
		"all, and all again":            {"a b c d d c b a", 4, ""},
	} {
		w := wheel.New()
		w.Set(5, "c", "d")
		w.Set(3, "a", "b")
		is(t, what, w.Cancel(strings.Fields(c.gone)...), c.n)
		is(t, what+": Len", w.Len(), 4-c.n)
		for _, name := range strings.Fields(c.gone) {
			is(t, what+": At of "+name, answer(w.At(name)), told{})
		}
		is(t, what+" once more", w.Cancel(strings.Fields(c.gone)...), 0)
		is(t, what+": Due", w.Due(9), strings.Fields(c.due))
	}
}

func TestCancelAndSetAgain(t *testing.T) {
	w := wheel.New()
	w.Set(5, "a", "b")
	is(t, "Cancel", w.Cancel("a"), 1)
	w.Set(5, "a")
	is(t, "Due: it is behind those that stayed", w.Due(5), []string{"b", "a"})
	is(t, "Cancel of what was due", w.Cancel("a", "b"), 0)
	w.Set(2, "b")
	is(t, "Cancel of what was set again", w.Cancel("a", "b"), 1)
}

// The order stays right where timers go and others come in their stead.
func TestSetBehindWhatIsThere(t *testing.T) {
	w := wheel.New()
	w.Set(9, "a", "b", "c")
	w.Set(1, "x", "y")
	is(t, "Due(1)", w.Due(1), []string{"x", "y"})
	w.Set(9, "d")
	is(t, "Cancel", w.Cancel("a", "b"), 2)
	w.Set(9, "b", "e")
	w.Set(9, "a")
	is(t, "Due(9)", w.Due(9), []string{"c", "d", "b", "e", "a"})
	w.Set(9, "c", "a")
	is(t, "Due(9) once it was empty", w.Due(9), []string{"c", "a"})
}

// P13.2

func TestDue(t *testing.T) {
	for now, want := range map[int]string{
		math.MinInt: "",
		-4:          "",
		-3:          "m",
		-1:          "m",
		0:           "m z",
		4:           "m z",
		5:           "m z b a",
		6:           "m z b a",
		7:           "m z b a c",
		math.MaxInt: "m z b a c",
	} {
		w, p := wheel.New(), &plain{}
		for _, s := range []set{{"c", 7}, {"b", 5}, {"z", 0}, {"m", -3}, {"a", 5}} {
			w.Set(s.at, s.name)
			p.set(s.at, s.name)
		}
		what := "Due(" + strconv.Itoa(now) + ")"
		is(t, what, w.Due(now), strings.Fields(want))
		p.cancel(strings.Fields(want)...)
		p.holds(t, what, w, "a", "b", "c", "m", "z")
		is(t, what+" once more", w.Due(now), []string{})
		p.holds(t, what+" once more", w, "a", "b", "c", "m", "z")
	}
}

func TestTimesAtTheEdges(t *testing.T) {
	for turn := range 2 {
		w := wheel.New()
		times := slices.Clone(edges)
		if turn == 1 {
			slices.Reverse(times)
		}
		for _, at := range times {
			w.Set(at, strconv.Itoa(at))
		}
		is(t, "Len", w.Len(), len(edges))
		for i, at := range edges {
			name := strconv.Itoa(at)
			is(t, "Next at "+name, answer(w.Next()), told{at, true})
			is(t, "At of "+name, answer(w.At(name)), told{at, true})
			if at != math.MinInt {
				is(t, "Due ahead of "+name, w.Due(at-1), []string{})
			}
			is(t, "Due at "+name, w.Due(at), []string{name})
			is(t, "At of "+name+" behind it", answer(w.At(name)), told{})
			is(t, "Len behind "+name, w.Len(), len(edges)-i-1)
		}
		is(t, "Next at the end", answer(w.Next()), told{})
	}
}

func TestEdgesAllAtOnce(t *testing.T) {
	w, want := wheel.New(), []string{}
	for _, at := range slices.Backward(edges) {
		w.Set(at, "b"+strconv.Itoa(at), "a"+strconv.Itoa(at))
	}
	for _, at := range edges {
		want = append(want, "b"+strconv.Itoa(at), "a"+strconv.Itoa(at))
	}
	is(t, "Due", w.Due(math.MaxInt), want)
}

func TestNext(t *testing.T) {
	w := wheel.New()
	is(t, "of none", answer(w.Next()), told{})
	w.Set(5, "a")
	is(t, "of one", answer(w.Next()), told{5, true})
	w.Set(9, "b")
	is(t, "behind a later one", answer(w.Next()), told{5, true})
	w.Set(-2, "c")
	is(t, "behind an earlier one", answer(w.Next()), told{-2, true})
	w.Set(0, "c")
	is(t, "at 0", answer(w.Next()), told{0, true})
	w.Set(20, "c")
	is(t, "once the least is set later", answer(w.Next()), told{5, true})
	w.Cancel("a")
	is(t, "once the least is cancelled", answer(w.Next()), told{9, true})
	w.Due(9)
	is(t, "once the least was due", answer(w.Next()), told{20, true})
	w.Due(20)
	is(t, "once all were due", answer(w.Next()), told{})
}

func TestAt(t *testing.T) {
	w := wheel.New()
	is(t, "of none", answer(w.At("a")), told{})
	is(t, "of no bytes", answer(w.At("")), told{})
	w.Set(0, "a")
	is(t, "at 0", answer(w.At("a")), told{0, true})
	w.Set(-7, "b", "a")
	is(t, "anew", answer(w.At("a")), told{-7, true})
	is(t, "beside it", answer(w.At("b")), told{-7, true})
	is(t, "a name that begins so", answer(w.At("aa")), told{})
	w.Cancel("b")
	is(t, "cancelled", answer(w.At("b")), told{})
	w.Due(-7)
	is(t, "due", answer(w.At("a")), told{})
}

func TestAskingChangesNothing(t *testing.T) {
	w, p := wheel.New(), &plain{}
	w.Set(5, "b", "a")
	p.set(5, "b", "a")
	for range 3 {
		p.holds(t, "asked again", w, "", "a", "none")
		is(t, "Due ahead of all", w.Due(4), []string{})
	}
	is(t, "Due", w.Due(5), []string{"b", "a"})
}

func TestNamesOfAllKinds(t *testing.T) {
	w, p := wheel.New(), &plain{}
	for i, name := range oddNames {
		w.Set(i%3, name)
		p.set(i%3, name)
		p.holds(t, "odd names", w, oddNames...)
	}
	is(t, "Cancel", w.Cancel("aa", "b", "\x80"), p.cancel("aa", "b", "\x80"))
	p.holds(t, "odd names, some cancelled", w, oddNames...)
	for now := range 3 {
		is(t, "Due", w.Due(now), p.due(now))
		p.holds(t, "odd names, some due", w, oddNames...)
	}
}

// A map has another order each time it is gone through: what is told has just the one.
func TestManyOfOneTime(t *testing.T) {
	names := numbers(3000)
	w := wheel.New()
	w.Set(8, names...)
	is(t, "Len", w.Len(), 3000)
	is(t, "Due", w.Due(8), names)

	slices.Reverse(names)
	for _, name := range names {
		w.Set(8, name)
	}
	is(t, "Due, set one by one", w.Due(8), names)

	w.Set(8, names...)
	w.Set(8, names[:1000]...)
	is(t, "Due, some set anew", w.Due(8), append(slices.Clone(names[1000:]), names[:1000]...))
}

func TestManyTimes(t *testing.T) {
	w, want := wheel.New(), make([][]string, 100)
	for i, name := range numbers(5000) {
		at := i * 37 % 100
		w.Set(at, name)
		want[at] = append(want[at], name)
	}
	is(t, "Due of the first half", w.Due(49), slices.Concat(want[:50]...))
	is(t, "Next", answer(w.Next()), told{50, true})
	for at := 50; at < 100; at++ {
		is(t, "Due at "+strconv.Itoa(at), w.Due(at), want[at])
	}
	is(t, "Len", w.Len(), 0)
}

// A nil wheel, and a zero one

func TestNilWheel(t *testing.T) {
	var w *wheel.Wheel
	for range 2 {
		w.Set(1, "a", "b")
		w.Set(1)
		is(t, "Cancel", w.Cancel("a", "b"), 0)
		is(t, "Cancel of no names", w.Cancel(), 0)
		is(t, "Due", w.Due(math.MaxInt), []string{})
		is(t, "Next", answer(w.Next()), told{})
		is(t, "At", answer(w.At("a")), told{})
		is(t, "Len", w.Len(), 0)
	}
}

func TestZeroWheel(t *testing.T) {
	for what, first := range map[string]func(*wheel.Wheel){
		"nothing": func(*wheel.Wheel) {},
		"Set":     func(w *wheel.Wheel) { w.Set(1) },
		"Cancel":  func(w *wheel.Wheel) { is(t, "Cancel", w.Cancel("a"), 0) },
		"Due":     func(w *wheel.Wheel) { is(t, "Due", w.Due(math.MaxInt), []string{}) },
		"Next":    func(w *wheel.Wheel) { is(t, "Next", answer(w.Next()), told{}) },
		"At":      func(w *wheel.Wheel) { is(t, "At", answer(w.At("a")), told{}) },
		"Len":     func(w *wheel.Wheel) { is(t, "Len", w.Len(), 0) },
	} {
		var w wheel.Wheel
		p := &plain{}
		first(&w)
		p.holds(t, "zero, behind "+what, &w, "", "a")
		w.Set(5, "b", "a")
		p.set(5, "b", "a")
		p.holds(t, "no more zero, behind "+what, &w, "", "a")
		is(t, "Due, behind "+what, w.Due(5), p.due(5))
	}
}
