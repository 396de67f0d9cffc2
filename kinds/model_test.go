package kinds_test

import (
	"cmp"
	"fmt"
	"maps"
	"math/rand"
	"slices"
	"strings"
	"testing"

	"murmuration/api"
	"murmuration/kinds"
	"murmuration/store"
)

func covered(c api.Clock, d api.Dot) bool {
	return slices.ContainsFunc(c, func(s api.Dot) bool { return d.N > 0 && s.Actor == d.Actor && d.N <= s.N })
}

// reach is the path of what an update puts into and takes away from.
func reach(u api.Update) []api.Field {
	path := slices.Clone(u.Path)
	switch u.Op {
	case api.OpInsert, api.OpRemove:
		path = append(path, api.Field{Kind: 0, Name: u.S})
	case api.OpDrop:
		path = append(path, api.Field{Kind: u.Kind, Name: u.S})
	}
	return path
}

// minted is the entry that an update puts, if it does.
func minted(x event) (api.Entry, bool) {
	e := api.Entry{Dot: x.dot}
	switch x.u.Op {
	case api.OpPut:
		e.S = x.u.S
	case api.OpAdd:
		e.N = x.u.N
	case api.OpEnable, api.OpInsert:
	case api.OpAssign:
		e.S, e.T = x.u.S, x.u.T
	default:
		return api.Entry{}, false
	}
	return e, true
}

// A flat model of a store: each entry at its place, the names on the way to it as one text.
type model map[spot]api.Entry

type spot struct {
	way string
	dot api.Dot
}

func wayOf(path ...api.Field) string {
	way := ""
	for _, f := range path {
		way += fmt.Sprintf("%d%q/", f.Kind, f.Name)
	}
	return way
}

func (m model) fill(s api.Store, path ...api.Field) {
	if len(path) > api.MaxDeep {
		return
	}
	for _, e := range s.Entries {
		m.put(wayOf(path...), e)
	}
	for _, f := range s.Fields {
		m.fill(f.Store, append(slices.Clone(path), f)...)
	}
}

func (m model) put(way string, e api.Entry) {
	at := spot{way, e.Dot}
	old, is := m[at]
	if e.Dot.N == 0 || is && cmp.Or(cmp.Compare(e.N, old.N), strings.Compare(e.S, old.S), cmp.Compare(e.T, old.T)) < 0 {
		return
	}
	m[at] = e
}

func (m model) apply(x event) {
	way := wayOf(reach(x.u)...)
	if x.u.Op != api.OpAdd {
		maps.DeleteFunc(m, func(at spot, e api.Entry) bool {
			return strings.HasPrefix(at.way, way) && covered(x.seen, at.dot)
		})
	}
	if e, mints := minted(x); mints {
		m.put(way, e)
	}
}

func pick[T any](draw *rand.Rand, l ...T) T { return l[draw.Intn(len(l))] }

func drawnName(draw *rand.Rand) string { return pick(draw, "", "a", "a", "b", "\xff") }

func drawnDot(draw *rand.Rand) api.Dot {
	return api.Dot{Actor: pick[uint64](draw, 0, 1, 1, 2, 2, most), N: pick[uint64](draw, 1, 1, 2, 3, most)}
}

func drawnClock(draw *rand.Rand) api.Clock {
	var c api.Clock
	for range draw.Intn(4) {
		c = append(c, drawnDot(draw))
		if draw.Intn(4) == 0 {
			c[len(c)-1].N = 0
		}
	}
	return c
}

// drawnUpdate is one that may be for the kind; of a map it often goes into its fields.
func drawnUpdate(draw *rand.Rand, kind int) api.Update {
	u := api.Update{N: pick[int64](draw, 0, 1, -1, 1<<62), S: drawnName(draw), T: pick[uint64](draw, 0, 1, 2, most), Kind: pick(draw, fieldKinds...)}
	for kind == api.KindMap && len(u.Path) < 7 && draw.Intn(4) > 0 {
		kind = pick(draw, append(fieldKinds, api.KindMap, api.KindMap)...)
		u.Path = append(u.Path, api.Field{Kind: kind, Name: drawnName(draw)})
	}
	switch kind {
	case api.KindObject:
		u.Op = api.OpPut
	case api.KindCounter:
		u.Op = api.OpAdd
	case api.KindFlag:
		u.Op = pick(draw, api.OpEnable, api.OpDisable)
	case api.KindSet:
		u.Op = pick(draw, api.OpInsert, api.OpInsert, api.OpRemove)
	case api.KindRegister:
		u.Op = api.OpAssign
	case api.KindMap:
		u.Op = api.OpDrop
	}
	if len(u.Path) == 0 && draw.Intn(8) == 0 {
		u.Op = api.OpDelete
	}
	return u
}

// drawn is a store of anything, its own Norm or not.
func drawn(draw *rand.Rand, size int) api.Store {
	var s api.Store
	for range draw.Intn(4) {
		e := api.Entry{Dot: drawnDot(draw), N: pick[int64](draw, 0, 1, -1), S: drawnName(draw), T: pick[uint64](draw, 0, 1, most)}
		e.Dot.N -= pick[uint64](draw, 0, 0, 0, 1)
		s.Entries = append(s.Entries, e)
	}
	for range draw.Intn(size + 1) {
		s.Fields = append(s.Fields, api.Field{Kind: pick(draw, -1, 0, 0, 1, 2, 3, 4, 5, 6, 6, 6, 7), Name: drawnName(draw), Store: drawn(draw, size-1)})
	}
	return s
}

// somewhere has the store behind the path, as it is, beside others.
func somewhere(draw *rand.Rand, s api.Store, path []api.Field) api.Store {
	for i := range path {
		f := path[len(path)-1-i]
		f.Store = s
		s = drawn(draw, 1)
		s.Fields = append(s.Fields, f)
	}
	return s
}

func TestApplyAgainstTheModel(t *testing.T) {
	draw := rand.New(rand.NewSource(1))
	for range 8000 {
		kind := 1 + draw.Intn(6)
		x := event{drawnDot(draw), drawnClock(draw), drawnUpdate(draw, kind)}
		s := drawn(draw, 3)
		if draw.Intn(2) == 0 {
			s = somewhere(draw, s, pick(draw, x.u.Path, reach(x.u)))
		}
		want := model{}
		want.fill(s)
		want.apply(x)
		got := applied(t, kind, s, x)
		is(t, "what Apply tells as its own Norm", got, store.Norm(got))
		m := model{}
		m.fill(got)
		if !maps.Equal(m, want) {
			t.Fatalf("Apply of kind %d, %s to %s: %s, want %s", kind, told(x), told(s), told(got), told(want))
		}
		is(t, "Apply to the Norm", applied(t, kind, store.Norm(s), x), got)
		is(t, "Tell of the Norm", kinds.Tell(kind, store.Norm(s)), kinds.Tell(kind, s))
	}
}

// P8.4

func isPrefix(way, path []api.Field) bool {
	return len(way) <= len(path) && wayOf(way...) == wayOf(path[:len(way)]...)
}

// there are those events whose entries are there, by their dots: nothing but the promise's words.
func there(l []event) []event {
	var left []event
	for i, x := range l {
		_, mints := minted(x)
		gone := slices.ContainsFunc(l[i+1:], func(later event) bool {
			return later.u.Op != api.OpAdd && isPrefix(reach(later.u), reach(x.u)) && covered(later.seen, x.dot)
		})
		if mints && !gone {
			left = append(left, x)
		}
	}
	slices.SortFunc(left, func(a, b event) int {
		return cmp.Or(cmp.Compare(a.dot.Actor, b.dot.Actor), cmp.Compare(a.dot.N, b.dot.N))
	})
	return left
}

// specified is what a part tells, of the events that are there in it, so many fields down.
func specified(kind int, l []event, deep int) api.Value {
	v := api.Value{Kind: kind}
	switch kind {
	case api.KindObject:
		for _, x := range l {
			v.L = append(v.L, x.u.S)
		}
	case api.KindCounter:
		for _, x := range l {
			v.N += x.u.N
		}
	case api.KindFlag:
		v.B = len(l) > 0
	case api.KindSet:
		for _, x := range l {
			v.L = append(v.L, x.u.S)
		}
		slices.Sort(v.L)
		v.L = slices.Compact(v.L)
	case api.KindRegister:
		v.B = len(l) > 0
		for _, x := range l {
			if !slices.ContainsFunc(l, func(y event) bool { return y.u.T > x.u.T }) {
				v.S = x.u.S
			}
		}
	case api.KindMap:
		v.Fields = specifiedFields(l, deep)
	}
	return v
}

func specifiedFields(l []event, deep int) []api.Named {
	var all []api.Named
	for _, kind := range fieldKinds {
		parts := map[string][]event{}
		for _, x := range l {
			if f := x.u.Path[deep]; f.Kind == kind {
				parts[f.Name] = append(parts[f.Name], x)
			}
		}
		for _, name := range slices.Sorted(maps.Keys(parts)) {
			all = append(all, api.Named{Name: name, Value: specified(kind, parts[name], deep+1)})
		}
	}
	return all
}

// drawnEvents have dots that are unlike, each actor's rising, and have seen whatever there was.
func drawnEvents(draw *rand.Rand, kind int) []event {
	var l []event
	var had [4]uint64
	for range draw.Intn(24) {
		actor := draw.Intn(len(had))
		var saw api.Clock
		for a, n := range had {
			if draw.Intn(3) > 0 {
				saw = append(saw, api.Dot{Actor: uint64(a), N: uint64(draw.Intn(int(n) + 2))})
			}
		}
		had[actor]++
		l = append(l, event{api.Dot{Actor: uint64(actor), N: had[actor]}, saw, drawnUpdate(draw, kind)})
	}
	return l
}

func TestWhatFollowsOfEvents(t *testing.T) {
	draw := rand.New(rand.NewSource(2))
	for i := range 6000 {
		kind := 1 + i%6
		var s api.Store
		l := drawnEvents(draw, kind)
		for n := range l {
			s = applied(t, kind, s, l[n])
			left := there(l[:n+1])
			want := specified(kind, left, 0)
			got := kinds.Tell(kind, s)
			if told(got) != told(want) || !kinds.Same(got, want) {
				t.Fatalf("Tell of kind %d behind %s: %s, want %s", kind, told(l[:n+1]), told(got), told(want))
			}
			var dots []api.Dot
			for _, x := range left {
				dots = append(dots, x.dot)
			}
			is(t, "the entries that are there", store.Dots(s), dots)
		}
	}
}

// R3

// scribble is what an owner may do to a store, up to all that its lists have room for.
func scribble(s api.Store) {
	for _, f := range s.Fields {
		scribble(f.Store)
	}
	s.Entries, s.Fields = s.Entries[:cap(s.Entries)], s.Fields[:cap(s.Fields)]
	for i := range s.Entries {
		s.Entries[i] = text(99, 99, "scribbled")
	}
	for i := range s.Fields {
		s.Fields[i] = field(99, "scribbled", mark(99, 99))
	}
}

func scribbleValue(v api.Value) {
	for _, f := range v.Fields {
		scribbleValue(f.Value)
	}
	v.L, v.Fields = v.L[:cap(v.L)], v.Fields[:cap(v.Fields)]
	for i := range v.L {
		v.L[i] = "scribbled"
	}
	for i := range v.Fields {
		v.Fields[i] = api.Named{Name: "scribbled"}
	}
}

func TestMemory(t *testing.T) {
	draw := rand.New(rand.NewSource(3))
	for range 3000 {
		kind := 1 + draw.Intn(6)
		x := event{drawnDot(draw), drawnClock(draw), drawnUpdate(draw, kind)}
		s := somewhere(draw, drawn(draw, 3), x.u.Path)
		if draw.Intn(2) == 0 {
			s = store.Norm(s)
		}
		was := told(s) + told(x)
		first, second := applied(t, kind, s, x), applied(t, kind, s, x)
		value, other := kinds.Tell(kind, s), kinds.Tell(kind, s)
		wasFirst, wasValue := told(first), told(value)
		kinds.Check(kind, x.u)
		kinds.Same(value, other)
		scribble(second)
		scribbleValue(other)
		if told(s)+told(x) != was {
			t.Errorf("what was handed in: %s, it was %s", told(s)+told(x), was)
		}
		scribble(s)
		scribble(api.Store{Fields: x.u.Path})
		for i := range x.seen {
			x.seen[i] = api.Dot{Actor: 99, N: 99}
		}
		if told(first) != wasFirst || told(value) != wasValue {
			t.Errorf("what was told: %s, %s, it was %s, %s", told(first), told(value), wasFirst, wasValue)
		}
	}
}

// No two lists of one answer share memory: what is done to one of them, up to all that it has room for, is not seen in the others.
func TestListsOfOneAnswerAreApart(t *testing.T) {
	draw := rand.New(rand.NewSource(4))
	for range 2000 {
		s := drawn(draw, 4)
		got := applied(t, api.KindMap, s, event{drawnDot(draw), drawnClock(draw), drawnUpdate(draw, api.KindMap)})
		for i, f := range got.Fields {
			rest := func() string {
				return told(got.Entries) + told(got.Fields[:i]) + told(got.Fields[i+1:])
			}
			was := rest()
			scribble(f.Store)
			if rest() != was {
				t.Errorf("a field's owner changed others: %s, it was %s", rest(), was)
			}
		}
		value := kinds.Tell(api.KindMap, s)
		for i, f := range value.Fields {
			rest := func() string { return told(value.Fields[:i]) + told(value.Fields[i+1:]) }
			was := rest()
			scribbleValue(f.Value)
			if rest() != was {
				t.Errorf("a value's owner changed others: %s, it was %s", rest(), was)
			}
		}
	}
}
