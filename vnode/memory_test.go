package vnode_test

import (
	"slices"
	"testing"

	"murmuration/api"
	"murmuration/cell"
	"murmuration/vnode"
)

// scribble is what an owner may do to a cell, up to all that its lists have room for.
func scribble(c api.Cell) {
	scribbleOver(c.Clock, api.Dot{Actor: 99, N: 99})
	scribbleStore(c.Store)
}

func scribbleStore(s api.Store) {
	for _, f := range s.Fields {
		scribbleStore(f.Store)
	}
	scribbleOver(s.Entries, api.Entry{Dot: api.Dot{Actor: 99, N: 99}, S: "scribbled"})
	scribbleOver(s.Fields, api.Field{Kind: 99, Name: "scribbled"})
}

// scribbleOver writes over all that a list could reach.
func scribbleOver[T any](l []T, with T) {
	l = l[:cap(l)]
	for i := range l {
		l[i] = with
	}
}

// grown is a vnode with a map of several fields.
func grown(t *testing.T) *vnode.Vnode {
	t.Helper()
	v, _ := fresh(t)
	for _, name := range []string{"s", "r", "q"} {
		_, e := v.Update("k", api.KindMap, in(insert(name), api.Field{Kind: api.KindMap, Name: "m"}, api.Field{Kind: api.KindSet, Name: name}))
		ok(t, e)
	}
	ok(t, v.Join(keyed("j", elsewhere(t, 2, api.KindObject, put("a"), put("b")))))
	return v
}

func TestWhatIsToldIsTheOwnersOwn(t *testing.T) {
	v := grown(t)
	for range 2 {
		stays(t, "behind scribbling", v, func() {
			c, e := v.Get("k")
			ok(t, e)
			scribble(c)
			l := v.Fold()
			for _, k := range l {
				scribble(k.Cell)
			}
			scribbleOver(l, keyed("scribbled", api.Cell{}))
		})
	}
	c, e := v.Update("k", api.KindMap, op(api.OpDelete), nil)
	ok(t, e)
	stays(t, "behind scribbling over an update's cell", v, func() { scribble(c) })
	gets(t, "behind scribbling", v, "k", `6 [1/3/1:4] {6"m":{4"q":{0"q":{1/3/1.3}} 4"r":{0"r":{1/3/1.2}} 4"s":{0"s":{1/3/1.1}}}}`, api.OK)
}

func TestWhatIsToldDoesNotChangeLater(t *testing.T) {
	v := grown(t)
	got, _ := v.Get("k")
	told, _ := v.Update("k", api.KindMap, op(api.OpDelete), nil)
	l := v.Fold()
	wasGot, wasTold, wasFirst, wasSecond := shown(got), shown(told), shown(l[0].Cell), shown(l[1].Cell)
	for range 20 {
		v.Update("k", api.KindMap, op(api.OpDelete))
		v.Update("j", api.KindObject, put("c"))
	}
	v.Tidy()
	ok(t, v.Remove("k", "j"))
	is(t, "Get", shown(got), wasGot)
	is(t, "Update", shown(told), wasTold)
	is(t, "Fold", []string{l[0].Key, shown(l[0].Cell), l[1].Key, shown(l[1].Cell)}, []string{"j", wasFirst, "k", wasSecond})
}

func TestWhatIsHandedInStays(t *testing.T) {
	v := grown(t)
	c, _ := v.Get("k")
	path := make([]api.Field, 2, 5)
	copy(path, []api.Field{{Kind: api.KindMap, Name: "m"}, {Kind: api.KindCounter, Name: "c"}})
	seen := []api.Clock{slices.Clone(c.Clock), {{Actor: actor(1), N: 2}, {Actor: actor(1), N: 1}}}
	u := in(add(7), path...)
	_, e := v.Update("k", api.KindMap, u, seen...)
	ok(t, e)
	is(t, "the path", path[:5], []api.Field{{Kind: 6, Name: "m"}, {Kind: 2, Name: "c"}, {}, {}, {}})
	is(t, "what was seen", seen, []api.Clock{c.Clock, {{Actor: actor(1), N: 2}, {Actor: actor(1), N: 1}}})
	stays(t, "the owner changes them", v, func() {
		scribbleOver(path, api.Field{Kind: 99, Name: "scribbled"})
		scribbleOver(seen[0], api.Dot{Actor: 99, N: 99})
		scribbleOver(seen, nil)
	})

	other := elsewhere(t, 2, api.KindMap, in(insert("x"), api.Field{Kind: api.KindSet, Name: "s"}), op(api.OpDelete), in(insert("y"), api.Field{Kind: api.KindSet, Name: "s"}))
	l := make([]api.Keyed, 3, 5)
	copy(l, []api.Keyed{keyed("k", other), keyed("new", cell.Join(other, other)), keyed("", other)})
	was := shown(other)
	said(t, "Join", v.Join(l...), api.ErrArg)
	is(t, "the cells", []string{l[0].Key, shown(l[0].Cell), l[1].Key, shown(l[1].Cell), l[2].Key, shown(l[2].Cell)}, []string{"k", was, "new", was, "", was})
	is(t, "behind the list", l[:5][3:], []api.Keyed{{}, {}})
	stays(t, "the owner changes them", v, func() {
		scribble(l[0].Cell)
		scribble(l[1].Cell)
		scribbleOver(l, keyed("scribbled", api.Cell{}))
	})
	gets(t, "the owner changed them", v, "new", was, api.OK)

	keys := make([]string, 2, 4)
	copy(keys, []string{"new", "none"})
	said(t, "Remove", v.Remove(keys...), api.ErrNone)
	is(t, "the keys", keys[:4], []string{"new", "none", "", ""})
	stays(t, "the owner changes them", v, func() { scribbleOver(keys, "k") })
}

// R4

func TestTheSameCallsHaveTheSameAnswers(t *testing.T) {
	want := picture(grown(t))
	for range 20 {
		is(t, "once more", picture(grown(t)), want)
	}
}
