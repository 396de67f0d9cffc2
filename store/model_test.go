package store_test

import (
	"maps"
	"math/rand"
	"slices"
	"testing"

	"murmuration/api"
	"murmuration/clock"
	"murmuration/store"
)

// A model: what stands where, without any nesting. A store's Norm has no more than that, as empty fields are left out.
type model map[place]api.Entry

type place struct {
	steps [api.MaxDeep]step
	deep  int
	dot   api.Dot
}

type step struct {
	kind int
	name string
}

func modelOf(s api.Store) model {
	m := model{}
	m.fill(s, place{})
	return m
}

func (m model) fill(s api.Store, p place) {
	for _, e := range s.Entries {
		p.dot = e.Dot
		m.put(p, e)
	}
	if p.deep == api.MaxDeep {
		return
	}
	for _, f := range s.Fields {
		below := p
		below.steps[p.deep] = step{f.Kind, f.Name}
		below.deep++
		m.fill(f.Store, below)
	}
}

func (m model) put(p place, e api.Entry) {
	if old, is := m[p]; p.dot.N > 0 && (!is || greater(e, old)) {
		m[p] = e
	}
}

func greater(a, b api.Entry) bool {
	if a.N != b.N {
		return a.N > b.N
	}
	if a.S != b.S {
		return a.S > b.S
	}
	return a.T > b.T
}

func covered(c api.Clock, d api.Dot) bool {
	for _, s := range c {
		if s.Actor == d.Actor && d.N <= s.N {
			return d.N > 0
		}
	}
	return false
}

func (m model) join(cm api.Clock, other model, co api.Clock) model {
	out := model{}
	for p, e := range m {
		if _, both := other[p]; both || !covered(co, p.dot) {
			out.put(p, e)
		}
	}
	for p, e := range other {
		if _, both := m[p]; both || !covered(cm, p.dot) {
			out.put(p, e)
		}
	}
	return out
}

func (m model) drop(c api.Clock) model {
	out := maps.Clone(m)
	maps.DeleteFunc(out, func(p place, e api.Entry) bool { return covered(c, e.Dot) })
	return out
}

// leads tells whether a place is on the path, and where it stands behind it.
func leads(path []api.Field, p place) (place, bool) {
	if len(path) > p.deep {
		return place{}, false
	}
	for i, f := range path {
		if p.steps[i] != (step{f.Kind, f.Name}) {
			return place{}, false
		}
	}
	behind := place{deep: p.deep - len(path), dot: p.dot}
	copy(behind.steps[:], p.steps[len(path):])
	return behind, true
}

func (m model) at(path []api.Field) model {
	out := model{}
	for p, e := range m {
		if behind, is := leads(path, p); is {
			out[behind] = e
		}
	}
	return out
}

func (m model) set(part model, path []api.Field) model {
	out := maps.Clone(m)
	if len(path) > api.MaxDeep {
		return out
	}
	maps.DeleteFunc(out, func(p place, e api.Entry) bool { _, is := leads(path, p); return is })
	for p, e := range part {
		if len(path)+p.deep > api.MaxDeep {
			continue
		}
		whole := place{deep: len(path) + p.deep, dot: p.dot}
		for i, f := range path {
			whole.steps[i] = step{f.Kind, f.Name}
		}
		copy(whole.steps[len(path):], p.steps[:p.deep])
		out[whole] = e
	}
	return out
}

func (m model) dots() []api.Dot {
	seen := map[api.Dot]int{}
	for p := range m {
		seen[p.dot]++
	}
	return slices.SortedFunc(maps.Keys(seen), func(a, b api.Dot) int {
		if a.Actor < b.Actor || a.Actor == b.Actor && a.N < b.N {
			return -1
		}
		return 1
	})
}

// strict tells whether a store is its own Norm, by its order alone.
func strict(s api.Store, deep int) bool {
	for i, e := range s.Entries {
		if e.Dot.N == 0 {
			return false
		}
		if i == 0 {
			continue
		}
		if p := s.Entries[i-1].Dot; p.Actor > e.Dot.Actor || p.Actor == e.Dot.Actor && p.N >= e.Dot.N {
			return false
		}
	}
	for i, f := range s.Fields {
		if deep == api.MaxDeep || len(f.Store.Entries)+len(f.Store.Fields) == 0 || !strict(f.Store, deep+1) {
			return false
		}
		if i == 0 {
			continue
		}
		if p := s.Fields[i-1]; p.Kind > f.Kind || p.Kind == f.Kind && p.Name >= f.Name {
			return false
		}
	}
	return true
}

func agree(t *testing.T, what string, got api.Store, want model) {
	t.Helper()
	if !strict(got, 0) {
		t.Errorf("%s: %s is not its own Norm", what, told(got))
	}
	if !maps.Equal(modelOf(got), want) {
		t.Errorf("%s: %s, want %v", what, told(got), want)
	}
}

func pick[T any](draw *rand.Rand, l ...T) T { return l[draw.Intn(len(l))] }

func drawnDot(draw *rand.Rand) api.Dot {
	return api.Dot{Actor: pick[uint64](draw, 0, 1, 1, 2, 2, 3, 1<<63, most), N: pick[uint64](draw, 0, 1, 1, 2, 2, 3, most)}
}

func drawnEntry(draw *rand.Rand) api.Entry {
	return api.Entry{Dot: drawnDot(draw), N: pick[int64](draw, 0, 0, 1, -1), S: pick(draw, "", "", "a", "ab", "\xff"), T: pick[uint64](draw, 0, 1, most)}
}

func drawnName(draw *rand.Rand) api.Field {
	return api.Field{Kind: pick(draw, 0, 0, 1, -1), Name: pick(draw, "", "a", "a", "b", "\x80")}
}

func drawnPath(draw *rand.Rand, most int) []api.Field {
	var l []api.Field
	for range draw.Intn(most + 1) {
		l = append(l, drawnName(draw))
	}
	return l
}

// drawn is a store, its own Norm or not, of few names and dots, so that they meet.
func drawn(draw *rand.Rand, deep int) api.Store {
	var s api.Store
	for range draw.Intn(4) {
		s.Entries = append(s.Entries, drawnEntry(draw))
	}
	for range draw.Intn(deep + 1) {
		f := drawnName(draw)
		f.Store = drawn(draw, deep-1)
		s.Fields = append(s.Fields, f)
	}
	if draw.Intn(8) == 0 { // so that some reach as far as there may be, and farther
		for range draw.Intn(10) {
			s = api.Store{Fields: []api.Field{{Name: "a", Store: s}, drawnName(draw)}}
		}
	}
	return s
}

func drawnClock(draw *rand.Rand) api.Clock {
	var c api.Clock
	for range draw.Intn(4) {
		c = append(c, drawnDot(draw))
	}
	return c
}

// somePath is often one of the store's own, from a short one to one that is too long.
func somePath(draw *rand.Rand, s api.Store) []api.Field {
	var l []api.Field
	for len(s.Fields) > 0 && draw.Intn(6) > 0 {
		f := pick(draw, s.Fields...)
		l = append(l, api.Field{Kind: f.Kind, Name: f.Name, Store: drawn(draw, 0)})
		s = f.Store
	}
	return append(l, drawnPath(draw, pick(draw, 0, 0, 1, 2, 10))...)
}

func TestAgainstTheModel(t *testing.T) {
	draw := rand.New(rand.NewSource(7))
	for range 8000 {
		a, b := drawn(draw, 3), drawn(draw, 3)
		ca, cb := drawnClock(draw), drawnClock(draw)
		ma, mb := modelOf(a), modelOf(b)
		way, e := somePath(draw, a), drawnEntry(draw)
		agree(t, "Norm", store.Norm(a), ma)
		agree(t, "Join", store.Join(a, ca, b, cb), ma.join(ca, mb, cb))
		agree(t, "Drop", store.Drop(a, ca), ma.drop(ca))
		agree(t, "At", store.At(a, way...), ma.at(way))
		agree(t, "Set", store.Set(a, b, way...), ma.set(mb, way))
		part := ma.at(way)
		part.put(place{dot: e.Dot}, e)
		agree(t, "Put", store.Put(a, e, way...), ma.set(part, way))
		if got, want := store.Dots(a), ma.dots(); !slices.Equal(got, want) {
			t.Errorf("Dots of %s: %v, want %v", told(a), got, want)
		}
		if got := store.Empty(a); got != (len(ma) == 0) {
			t.Errorf("Empty of %s: %v", told(a), got)
		}
		if got := store.Same(a, b); got != maps.Equal(ma, mb) {
			t.Errorf("Same of %s and %s: %v", told(a), told(b), got)
		}
		if norm := store.Norm(a); written(a) != laid(norm) || !store.Same(a, norm) || told(store.Norm(norm)) != told(norm) {
			t.Errorf("%s and its Norm are not the same", told(a))
		}
	}
}

// P7.5

// state is a store with a clock that covers all its dots.
type state struct {
	store api.Store
	clock api.Clock
}

// drawnState has dots of the greatest N, too, and often others of its clock that are not there any more.
func drawnState(draw *rand.Rand) state {
	s := drawn(draw, 2)
	return state{s, clock.Add(drawnClock(draw), store.Dots(s)...)}
}

func joined(a, b state) state {
	return state{store.Join(a.store, a.clock, b.store, b.clock), clock.Merge(a.clock, b.clock)}
}

func alike(t *testing.T, what string, a, b state) {
	t.Helper()
	if told(store.Norm(a.store)) != told(store.Norm(b.store)) || !clock.Same(a.clock, b.clock) {
		t.Errorf("%s: %s, %v and %s, %v", what, told(a.store), a.clock, told(b.store), b.clock)
	}
}

func TestJoinOfStates(t *testing.T) {
	draw := rand.New(rand.NewSource(8))
	for range 4000 {
		a, b, c := drawnState(draw), drawnState(draw), drawnState(draw)
		ab := joined(a, b)
		for _, d := range store.Dots(ab.store) {
			if !clock.Covers(ab.clock, d) {
				t.Errorf("Join of %s and %s: %v is not covered", told(a.store), told(b.store), d)
			}
		}
		alike(t, "turned round", ab, joined(b, a))
		alike(t, "grouped", joined(ab, c), joined(a, joined(b, c)))
		alike(t, "in another order", joined(ab, c), joined(joined(c, a), b))
		alike(t, "with itself", joined(a, a), a)
		alike(t, "with a part again", joined(ab, a), ab)
		alike(t, "with nothing", joined(a, state{}), a)
	}
}

// Replicas put, drop what they have seen, and join; then all that met in whatever order have the same.
func TestReplicasThatMeet(t *testing.T) {
	draw := rand.New(rand.NewSource(9))
	for range 500 {
		replicas := make([]state, 4)
		for range 30 {
			i := draw.Intn(len(replicas))
			me := &replicas[i]
			switch draw.Intn(3) {
			case 0:
				d := clock.Next(me.clock, uint64(i))
				me.store = store.Put(me.store, api.Entry{Dot: d, N: draw.Int63()}, drawnPath(draw, 3)...)
				me.clock = clock.Add(me.clock, d)
			case 1:
				way := somePath(draw, me.store)
				me.store = store.Set(me.store, store.Drop(store.At(me.store, way...), me.clock), way...)
			case 2:
				*me = joined(*me, pick(draw, replicas...))
			}
		}
		var all []state
		for range 3 {
			var whole state
			for _, i := range draw.Perm(len(replicas)) {
				whole = joined(whole, replicas[i])
			}
			all = append(all, whole)
		}
		alike(t, "replicas that met", all[0], all[1])
		alike(t, "replicas that met", all[1], all[2])
		for _, r := range replicas {
			for _, d := range store.Dots(r.store) {
				gone := !slices.Contains(store.Dots(all[0].store), d)
				if without := slices.ContainsFunc(replicas, func(o state) bool {
					return clock.Covers(o.clock, d) && !slices.Contains(store.Dots(o.store), d)
				}); gone != without {
					t.Errorf("%v is gone: %v, somebody took it away: %v", d, gone, without)
				}
			}
		}
	}
}

func TestWhatIsReadIsWhatWasWritten(t *testing.T) {
	draw := rand.New(rand.NewSource(10))
	for range 5000 {
		a, b := drawn(draw, 3), drawn(draw, 3)
		reads(t, written(a), store.Norm(a))
		if (written(a) == written(b)) != store.Same(a, b) {
			t.Errorf("Write of %s and of %s", told(a), told(b))
		}
		bytesAre(t, laid(a))
	}
}

// R3

// scribble is what an owner may do to a store, up to all that its lists have room for.
func scribble(l ...api.Store) {
	for _, s := range l {
		for _, f := range s.Fields {
			scribble(f.Store)
		}
		for i := range s.Entries[:cap(s.Entries)] {
			s.Entries[:cap(s.Entries)][i] = entry("99.99(9,scribbled,9)")
		}
		for i := range s.Fields[:cap(s.Fields)] {
			s.Fields[:cap(s.Fields)][i] = api.Field{Kind: 99, Name: "scribbled", Store: at("99.99")}
		}
	}
}

func calls(a, b api.Store, c api.Clock, e api.Entry, way []api.Field) []api.Store {
	return []api.Store{
		store.Norm(a), store.Join(a, c, b, c), store.Join(b, nil, a, nil), store.Join(a, c, api.Store{}, nil), store.Drop(a, c), store.Drop(a, nil),
		store.Put(a, e, way...), store.Put(a, e), store.At(a, way...), store.At(a), store.Set(a, b, way...), store.Set(a, b), store.Set(a, a, way...), store.Set(a, b, down(9)...),
	}
}

func TestWhatIsHandedInStays(t *testing.T) {
	draw := rand.New(rand.NewSource(11))
	for range 1500 {
		a, b, c, e := drawn(draw, 3), drawn(draw, 3), drawnClock(draw), drawnEntry(draw)
		if draw.Intn(2) == 0 {
			a, b = store.Norm(a), store.Norm(b)
		}
		way := somePath(draw, a)
		wasA, wasB, wasC, wasWay := told(a), told(b), slices.Clone(c), told(api.Store{Fields: way})
		answers := calls(a, b, c, e, way)
		store.Dots(a)
		store.Empty(a)
		store.Same(a, b)
		written(a)
		scribble(answers...)
		if told(a) != wasA || told(b) != wasB || !slices.Equal(c, wasC) || told(api.Store{Fields: way}) != wasWay {
			t.Errorf("%s, %s, %v behind the calls: %s, %s, %v", wasA, wasB, wasC, told(a), told(b), c)
		}
	}
}

func TestWhatIsToldStays(t *testing.T) {
	draw := rand.New(rand.NewSource(12))
	for range 1500 {
		a, b, c, e := drawn(draw, 3), drawn(draw, 3), drawnClock(draw), drawnEntry(draw)
		if draw.Intn(2) == 0 {
			a, b = store.Norm(a), store.Norm(b)
		}
		way := somePath(draw, a)
		answers := calls(a, b, c, e, way)
		dots := store.Dots(a)
		wasDots := slices.Clone(dots)
		var was []string
		for _, s := range answers {
			was = append(was, told(s))
		}
		scribble(a, b, api.Store{Fields: way})
		for i := range c {
			c[i] = dot("99.99")
		}
		for i, s := range answers {
			if told(s) != was[i] {
				t.Errorf("answer %d: %s, it was %s", i, told(s), was[i])
			}
		}
		if !slices.Equal(dots, wasDots) {
			t.Errorf("Dots: %v, they were %v", dots, wasDots)
		}
	}
}

// No two lists of one answer share memory: what is done to one of them, up to all that it has room for, is not seen in the others.
func TestListsOfOneAnswerAreApart(t *testing.T) {
	draw := rand.New(rand.NewSource(13))
	for range 1500 {
		a, b := drawn(draw, 3), drawn(draw, 3)
		way := somePath(draw, a)
		answers := calls(a, b, drawnClock(draw), drawnEntry(draw), way)
		for _, s := range answers {
			for i := range s.Fields {
				rest := func() string {
					return told(api.Store{Entries: s.Entries, Fields: slices.Concat(s.Fields[:i], s.Fields[i+1:])})
				}
				was := rest()
				scribble(s.Fields[i].Store)
				if rest() != was {
					t.Errorf("a field's owner changed others: %s, it was %s", rest(), was)
				}
			}
			grown := append(s.Entries, entry("99.99"))
			was := told(api.Store{Fields: s.Fields})
			scribble(api.Store{Entries: grown}, api.Store{Entries: s.Entries})
			if got := told(api.Store{Fields: s.Fields}); got != was {
				t.Errorf("an owner of entries changed fields: %s, it was %s", got, was)
			}
		}
	}
}
