package clock_test

import (
	"math/rand"
	"slices"
	"testing"

	"murmuration/api"
	"murmuration/clock"
)

// A model: the greatest N of each actor that has one.
type model map[uint64]uint64

func modelOf(l ...api.Clock) model {
	m := model{}
	for _, c := range l {
		for _, d := range c {
			if d.N > m[d.Actor] {
				m[d.Actor] = d.N
			}
		}
	}
	return m
}

func (m model) covers(d api.Dot) bool { return d.N > 0 && d.N <= m[d.Actor] }

func (m model) within(other model) bool {
	for actor, n := range m {
		if !other.covers(api.Dot{Actor: actor, N: n}) {
			return false
		}
	}
	return true
}

func (m model) compare(other model) int {
	switch below, above := m.within(other), other.within(m); {
	case below && above:
		return 0
	case below:
		return -1
	case above:
		return 1
	}
	return 2
}

func (m model) clock() api.Clock {
	var c api.Clock
	for actor, n := range m {
		c = append(c, api.Dot{Actor: actor, N: n})
	}
	slices.SortFunc(c, func(a, b api.Dot) int {
		if a.Actor < b.Actor {
			return -1
		}
		return 1
	})
	return c
}

// drawn is a clock, right or not, of few actors and few numbers, so that they meet.
func drawn(draw *rand.Rand) api.Clock {
	actors := []uint64{0, 1, 2, 3, 1 << 32, 1 << 63, most}
	numbers := []uint64{0, 1, 2, 3, 127, 128, 1 << 63, most - 1, most}
	var c api.Clock
	for range draw.Intn(6) {
		c = append(c, api.Dot{Actor: actors[draw.Intn(len(actors))], N: numbers[draw.Intn(len(numbers))]})
	}
	return c
}

func TestAgainstTheModel(t *testing.T) {
	draw := rand.New(rand.NewSource(6))
	for range 20000 {
		a, b := drawn(draw), drawn(draw)
		ma, mb, both := modelOf(a), modelOf(b), modelOf(a, b)
		agree(t, "Norm", clock.Norm(a), ma.clock())
		agree(t, "Merge", clock.Merge(a, b), both.clock())
		agree(t, "Add", clock.Add(a, b...), both.clock())
		if got, want := clock.Compare(a, b), ma.compare(mb); got != want || clock.Same(a, b) != (want == 0) {
			t.Errorf("Compare(%v, %v): %d, want %d", a, b, got, want)
		}
		for _, d := range append(drawn(draw), a...) {
			if got, want := clock.Get(a, d.Actor), ma[d.Actor]; got != want {
				t.Errorf("Get(%v, %d): %d, want %d", a, d.Actor, got, want)
			}
			if got, want := clock.Covers(a, d), ma.covers(d); got != want {
				t.Errorf("Covers(%v, %v): %v", a, d, got)
			}
			if got, want := clock.Next(a, d.Actor).N, max(ma[d.Actor]+1, ma[d.Actor]); got != want {
				t.Errorf("Next(%v, %d): %d, want %d", a, d.Actor, got, want)
			}
		}
	}
}

func agree(t *testing.T, what string, got, want api.Clock) {
	t.Helper()
	if !slices.Equal(got, want) {
		t.Errorf("%s: %v, want %v", what, got, want)
	}
}

// P6.5

func TestMergeHangsOnNoOrderAndNoGrouping(t *testing.T) {
	draw := rand.New(rand.NewSource(7))
	for range 5000 {
		a, b, c := drawn(draw), drawn(draw), drawn(draw)
		all := clock.Merge(a, b, c)
		for _, l := range [][]api.Clock{{a, c, b}, {b, a, c}, {b, c, a}, {c, a, b}, {c, b, a}} {
			agree(t, "Merge in another order", clock.Merge(l...), all)
		}
		agree(t, "Merge of two, and one", clock.Merge(clock.Merge(a, b), c), all)
		agree(t, "Merge of one, and two", clock.Merge(a, clock.Merge(b, c)), all)
		agree(t, "Merge twice", clock.Merge(all, all), all)
		agree(t, "Merge with a part again", clock.Merge(all, b), all)
		agree(t, "Merge with none", clock.Merge(nil, all, api.Clock{}), all)
		agree(t, "Norm twice", clock.Norm(all), all)
		agree(t, "Add of the last one's dots", clock.Add(clock.Merge(a, b), c...), all)
	}
}

func TestTheWholeCoversWhatAPartCovers(t *testing.T) {
	draw := rand.New(rand.NewSource(8))
	for range 5000 {
		a, b := drawn(draw), drawn(draw)
		whole := clock.Merge(a, b)
		for _, d := range slices.Concat(a, b, drawn(draw)) {
			if clock.Covers(whole, d) != (clock.Covers(a, d) || clock.Covers(b, d)) {
				t.Errorf("Covers(%v, %v): %v", whole, d, clock.Covers(whole, d))
			}
		}
		for _, part := range []api.Clock{a, b} {
			if e := clock.Compare(part, whole); e != 0 && e != -1 {
				t.Errorf("Compare(%v, %v): %d", part, whole, e)
			}
		}
	}
}

func TestCompareIsAnOrder(t *testing.T) {
	draw := rand.New(rand.NewSource(9))
	back := map[int]int{0: 0, -1: 1, 1: -1, 2: 2}
	for range 20000 {
		a, b, c := drawn(draw), drawn(draw), drawn(draw)
		ab, bc, ac := clock.Compare(a, b), clock.Compare(b, c), clock.Compare(a, c)
		if clock.Compare(a, a) != 0 {
			t.Errorf("Compare(%v, %v) is not 0", a, a)
		}
		if clock.Compare(b, a) != back[ab] {
			t.Errorf("Compare(%v, %v) is not that of them turned round", a, b)
		}
		if (ab == 0) != slices.Equal(clock.Norm(a), clock.Norm(b)) {
			t.Errorf("Compare(%v, %v): %d", a, b, ab)
		}
		if ab <= 0 && bc <= 0 && ac != min(ab, bc) {
			t.Errorf("Compare(%v, %v): %d, with %v between them", a, c, ac, b)
		}
	}
}

func TestNextIsNotSeenYet(t *testing.T) {
	draw := rand.New(rand.NewSource(10))
	for range 5000 {
		c := drawn(draw)
		for _, d := range c {
			next := clock.Next(c, d.Actor)
			if full := clock.Get(c, d.Actor) == most; clock.Covers(c, next) != full {
				t.Errorf("Covers(%v, %v): %v", c, next, !full)
			}
			if !clock.Covers(clock.Add(c, next), next) {
				t.Errorf("%v with %v does not cover it", c, next)
			}
		}
	}
}

func TestWhatIsReadIsWhatWasWritten(t *testing.T) {
	draw := rand.New(rand.NewSource(11))
	for range 5000 {
		c := drawn(draw)
		read, e := clock.Read(clock.Bytes(c))
		parsed, e2 := clock.Parse(clock.Text(c))
		if e != api.OK || e2 != api.OK {
			t.Errorf("Read, Parse of %v: %d, %d", c, int(e), int(e2))
		}
		agree(t, "Read", read, clock.Norm(c))
		agree(t, "Parse", parsed, clock.Norm(c))
		if other := drawn(draw); (clock.Bytes(c) == clock.Bytes(other)) != clock.Same(c, other) {
			t.Errorf("Bytes of %v and of %v", c, other)
		}
	}
}

func TestWhatAnyBytesAreRead(t *testing.T) {
	draw := rand.New(rand.NewSource(12))
	for range 50000 {
		b := make([]byte, draw.Intn(12))
		draw.Read(b)
		if len(b) > 0 {
			b[0] %= 6
		}
		c, e := clock.Read(string(b))
		switch {
		case e == api.OK && clock.Bytes(c) != string(b):
			t.Errorf("Read(%x): %v", b, c)
		case e != api.OK && (c != nil || e != api.ErrContext):
			t.Errorf("Read(%x): %v, %d", b, c, int(e))
		}
	}
}

// R3

func TestWhatIsHandedInStays(t *testing.T) {
	draw := rand.New(rand.NewSource(13))
	for range 2000 {
		a, b := drawn(draw), drawn(draw)
		wasA, wasB := slices.Clone(a), slices.Clone(b)
		l := []api.Clock{a, b}
		told := []api.Clock{clock.Norm(a), clock.Merge(a), clock.Merge(l...), clock.Merge(b, a), clock.Add(a, b...), clock.Add(a), clock.Add(nil, b...)}
		clock.Get(a, 1)
		clock.Covers(a, api.Dot{Actor: 1, N: 1})
		clock.Next(a, 1)
		clock.Compare(a, b)
		clock.Same(a, b)
		clock.Bytes(a)
		clock.Text(a)
		scribble(told...)
		agree(t, "the first one behind the calls", a, wasA)
		agree(t, "the second one behind the calls", b, wasB)
		agree(t, "the list's first one", l[0], wasA)
		agree(t, "the list's second one", l[1], wasB)
	}
}

func TestWhatIsToldStays(t *testing.T) {
	draw := rand.New(rand.NewSource(14))
	for range 2000 {
		a, b := drawn(draw), drawn(draw)
		l := []api.Clock{a, b}
		want := modelOf(a, b).clock()
		norm := modelOf(a).clock()
		merged, added, normed, alone := clock.Merge(l...), clock.Add(a, b...), clock.Norm(a), clock.Merge(a)
		again := clock.Norm(normed)
		scribble(a, b)
		l[0], l[1] = nil, nil
		agree(t, "Merge", merged, want)
		agree(t, "Add", added, want)
		agree(t, "Norm", normed, norm)
		agree(t, "Merge of one", alone, norm)
		scribble(normed)
		agree(t, "Norm of a right one", again, norm)
	}
}

func TestReadTellsNewMemory(t *testing.T) {
	s := clock.Bytes(at("1:2 5:1"))
	first, _ := clock.Read(s)
	scribble(first)
	second, _ := clock.Read(s)
	is(t, "Read again", second, "1:2 5:1")
}

// scribble is what an owner may do to lists, up to all that they have room for.
func scribble(l ...api.Clock) {
	for _, c := range l {
		for i := range c[:cap(c)] {
			c[:cap(c)][i] = api.Dot{Actor: 99, N: 99}
		}
	}
}
