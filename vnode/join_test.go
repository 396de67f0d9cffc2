package vnode_test

import (
	"fmt"
	"testing"

	"murmuration/api"
	"murmuration/cask"
	"murmuration/cell"
	"murmuration/clock"
	"murmuration/vnode"
)

// P15.4: Join

func TestJoin(t *testing.T) {
	v, d := fresh(t)
	here, _ := v.Update("k", api.KindSet, insert("x"))
	there := elsewhere(t, 2, api.KindSet, insert("x"), insert("y"), remove("x"))
	other := elsewhere(t, 3, api.KindCounter, add(5))
	// Two that change something, one sync.
	did(t, "Join", d, 3, func() { ok(t, v.Join(keyed("k", there), keyed("j", other))) })
	has(t, "joined", v, keyed("j", other), keyed("k", cell.Join(here, there)))
	gets(t, "joined", v, "k", `4 [1/3/1:1 2/3/1:3] {0"x":{1/3/1.1} 0"y":{2/3/1.2}}`, api.OK)
	lies(t, "the epoch as it was", d, "k", value(1, cell.Join(here, there)))
	lies(t, "no epoch", d, "j", value(0, other))
	d.Crash()
	has(t, "behind a crash", opened(t, d, 1, 3), keyed("j", other), keyed("k", cell.Join(here, there)))
}

func TestNothingIsDone(t *testing.T) {
	v, d := fresh(t)
	older := elsewhere(t, 2, api.KindSet, insert("x"))
	newer := elsewhere(t, 2, api.KindSet, insert("x"), insert("y"))
	ok(t, v.Join(keyed("k", newer)))
	did(t, "nothing", d, 0, func() {
		ok(t, v.Join(), v.Join([]api.Keyed{}...))
		ok(t, v.Join(keyed("k", newer)), v.Join(keyed("k", older)), v.Join(keyed("k", cell.New(api.KindSet))))
		ok(t, v.Join(keyed("k", older), keyed("k", newer), keyed("k", newer)))
	})
	has(t, "nothing", v, keyed("k", newer))
	// So no power is needed, either.
	without(t, d)
	ok(t, v.Join(), v.Join(keyed("k", older)))
	is(t, "Broken", v.Broken(), false)
	said(t, "something", v.Join(keyed("j", older)), api.ErrPower)
	is(t, "Broken", v.Broken(), true)
}

func TestACellOfNothing(t *testing.T) {
	v, d := fresh(t)
	for kind := 1; kind <= 6; kind++ {
		key := fmt.Sprint("k", kind)
		did(t, "not there yet", d, 2, func() { ok(t, v.Join(keyed(key, cell.New(kind)))) })
		did(t, "there", d, 0, func() { ok(t, v.Join(keyed(key, cell.New(kind)))) })
		gets(t, "of nothing", v, key, fmt.Sprintf("%d [] {}", kind), api.OK)
		lies(t, "of nothing", d, key, value(0, cell.New(kind)))
		said(t, "another kind", v.Join(keyed(key, cell.New(1+kind%6))), api.ErrKind)
	}
	is(t, "Len", opened(t, d, 1, 3).Len(), 6)
}

func TestOneKeyTwice(t *testing.T) {
	v, d := fresh(t)
	a, b := elsewhere(t, 2, api.KindSet, insert("x")), elsewhere(t, 3, api.KindSet, insert("y"))
	did(t, "Join", d, 3, func() { ok(t, v.Join(keyed("k", a), keyed("k", b), keyed("k", a))) })
	has(t, "Join", v, keyed("k", cell.Join(a, b)))
	said(t, "another kind", v.Join(keyed("j", a), keyed("j", cell.New(api.KindMap))), api.ErrKind)
	has(t, "another kind", v, keyed("j", a), keyed("k", cell.Join(a, b)))
}

// wrongCells are not right.
func wrongCells(t *testing.T) map[string]api.Cell {
	right := elsewhere(t, 2, api.KindObject, put("a"), put("b"))
	l := map[string]api.Cell{"zero": {}, "a kind above": {Kind: 7}, "a kind below": {Kind: -1}}
	for what, spoil := range map[string]func(c *api.Cell){
		"a clock that covers too little": func(c *api.Cell) { c.Clock = api.Clock{{Actor: c.Clock[0].Actor, N: 1}} },
		"no clock":                       func(c *api.Cell) { c.Clock = nil },
		"a dot of N 0":                   func(c *api.Cell) { c.Clock = append(c.Clock, api.Dot{Actor: most}) },
		"dots that fall":                 func(c *api.Cell) { c.Clock = append(c.Clock, api.Dot{Actor: 1, N: 1}) },
		"a dot twice":                    func(c *api.Cell) { c.Clock = append(c.Clock, c.Clock...) },
		"entries that fall":              func(c *api.Cell) { c.Store.Entries = []api.Entry{c.Store.Entries[1], c.Store.Entries[0]} },
		"an empty field":                 func(c *api.Cell) { c.Store.Fields = []api.Field{{Kind: 2, Name: "c"}} },
	} {
		c := cell.Join(right, right)
		spoil(&c)
		l[what] = c
	}
	return l
}

func TestCellsThatAreNotRight(t *testing.T) {
	v, d := fresh(t)
	for what, c := range wrongCells(t) {
		did(t, what, d, 0, func() {
			said(t, what, v.Join(keyed("k", c)), api.ErrArg)
			said(t, what+", and a key", v.Join(keyed("", c)), api.ErrArg)
		})
	}
	set := elsewhere(t, 2, api.KindSet, insert("x"))
	ok(t, v.Join(keyed("k", set)))
	for what, c := range wrongCells(t) {
		// That one is named ahead of ErrKind.
		said(t, what+", and another kind", v.Join(keyed("k", c)), api.ErrArg)
	}
	for _, key := range []string{"", long(256), long(1 << 18)} {
		said(t, "a key", v.Join(keyed(key, set)), api.ErrArg)
	}
	ok(t, v.Join(keyed(long(255), set)))
	has(t, "refused", v, keyed("k", set), keyed(long(255), set))
}

func TestJoinGoesUpToTheFirstError(t *testing.T) {
	a, b := elsewhere(t, 2, api.KindSet, insert("x")), elsewhere(t, 3, api.KindSet, insert("y"))
	for what, wrong := range map[string]struct {
		k    api.Keyed
		want api.Errno
	}{
		"a key":        {keyed("", a), api.ErrArg},
		"a cell":       {keyed("new", api.Cell{}), api.ErrArg},
		"another kind": {keyed("k", cell.New(api.KindMap)), api.ErrKind},
		"a size":       {keyed("o", filled(t, 2, 60001)), api.ErrSize},
	} {
		v, d := fresh(t)
		ok(t, v.Join(keyed("k", a)))
		did(t, what, d, 3, func() {
			said(t, what, v.Join(keyed("k", b), keyed("l", b), wrong.k, keyed("m", b), keyed("", a)), wrong.want)
		})
		has(t, what, v, keyed("k", cell.Join(a, b)), keyed("l", b))
		// Those ahead of it are firm.
		d.Crash()
		has(t, what+", behind a crash", opened(t, d, 1, 3), keyed("k", cell.Join(a, b)), keyed("l", b))
		did(t, what, d, 0, func() { said(t, what, v.Join(wrong.k, keyed("m", b)), wrong.want) })
		is(t, what, v.Broken(), false)
	}
}

func TestJoinsThatAreTooGreat(t *testing.T) {
	v, d := fresh(t)
	c, more := filled(t, 2, 60000), filled(t, 2, 60001)
	ok(t, v.Join(keyed("k", c)))
	lies(t, "just so many", d, "k", value(0, c))
	did(t, "one too many", d, 0, func() {
		said(t, "one too many", v.Join(keyed("j", more)), api.ErrSize)
		said(t, "too many together", v.Join(keyed("k", elsewhere(t, 3, api.KindObject, put("x")))), api.ErrSize)
		// Each by itself may be, and what is joined is no more than what is there.
		ok(t, v.Join(keyed("k", c)))
	})
	has(t, "too great", v, keyed("k", c))
	// What takes away makes it small again.
	gone := cellOf(api.KindObject)
	gone.Clock = c.Clock
	ok(t, v.Join(keyed("k", gone)))
	has(t, "taken away", v, keyed("k", gone))
	said(t, "taken away, so it does not come back", v.Join(keyed("k", c)), api.OK)
	has(t, "taken away", v, keyed("k", gone))
}

func TestNoRoomInAJoin(t *testing.T) {
	v, d := fresh(t)
	a, b := elsewhere(t, 2, api.KindSet, insert("x")), elsewhere(t, 3, api.KindObject, put(long(1000)))
	d.Limit(500)
	did(t, "no room", d, 2, func() { said(t, "no room", v.Join(keyed("a", a), keyed("b", b), keyed("c", a)), api.ErrFull) })
	has(t, "no room", v, keyed("a", a))
	d.Crash()
	has(t, "no room, behind a crash", opened(t, d, 1, 3), keyed("a", a))
	stays(t, "no room again", v, func() { said(t, "no room", v.Join(keyed("b", b)), api.ErrFull) })
	d.Limit(5000)
	ok(t, v.Join(keyed("b", b)))
	has(t, "room again", v, keyed("a", a), keyed("b", b))
}

func TestThePowerGoesInAJoin(t *testing.T) {
	a, b := elsewhere(t, 2, api.KindSet, insert("x")), elsewhere(t, 3, api.KindSet, insert("y"))
	for k := range 3 {
		v, d := fresh(t)
		d.Arm(k)
		said(t, "the power goes", v.Join(keyed("a", a), keyed("b", b)), api.ErrPower)
		nothing(t, "the power goes", v, api.ErrBroken)
		d.Crash()
		has(t, "behind a crash", opened(t, d, 1, 3))
	}
	// Where the first error is another one, that is told; it is broken all the same.
	v, d := fresh(t)
	d.Arm(1)
	said(t, "an error ahead of the sync", v.Join(keyed("a", a), keyed("", a)), api.ErrArg)
	nothing(t, "an error ahead of the sync", v, api.ErrBroken)
	// Nothing was put ahead of this one, so nothing is synced.
	v, d = fresh(t)
	d.Arm(0)
	said(t, "an error alone", v.Join(keyed("", a), keyed("a", a)), api.ErrArg)
	is(t, "an error alone", v.Broken(), false)
}

// P15.4: Remove

func TestRemove(t *testing.T) {
	v, d := fresh(t)
	c := elsewhere(t, 2, api.KindSet, insert("x"))
	ok(t, v.Join(keyed("a", c), keyed("b", c), keyed("c", c), keyed("d", c)))
	did(t, "none", d, 0, func() { ok(t, v.Remove(), v.Remove([]string{}...)) })
	did(t, "two", d, 3, func() { ok(t, v.Remove("c", "a")) })
	has(t, "two", v, keyed("b", c), keyed("d", c))
	gets(t, "removed", v, "a", "0 [] {}", api.ErrNone)
	d.Crash()
	has(t, "two, behind a crash", opened(t, d, 1, 3), keyed("b", c), keyed("d", c))
	// They may come again, of another kind.
	updated(t, v, "a", api.KindCounter, add(1), "2 [1/3/1:1] {1/3/1.1+1}")
}

func TestRemoveGoesUpToTheFirstError(t *testing.T) {
	c := elsewhere(t, 2, api.KindSet, insert("x"))
	for _, wrong := range []string{"", "none", "a", long(256)} {
		v, d := fresh(t)
		ok(t, v.Join(keyed("a", c), keyed("b", c)))
		did(t, wrong, d, 0, func() {
			if wrong != "a" {
				said(t, "at once", v.Remove(wrong, "a"), api.ErrNone)
			}
		})
		did(t, wrong, d, 2, func() { said(t, "behind one", v.Remove("a", wrong, "b"), api.ErrNone) })
		has(t, wrong, v, keyed("b", c))
		d.Crash()
		has(t, "behind a crash", opened(t, d, 1, 3), keyed("b", c))
	}
}

func TestThePowerGoesInARemove(t *testing.T) {
	c := elsewhere(t, 2, api.KindSet, insert("x"))
	for k := range 3 {
		v, d := fresh(t)
		ok(t, v.Join(keyed("a", c), keyed("b", c)))
		d.Arm(k)
		said(t, "the power goes", v.Remove("a", "b"), api.ErrPower)
		nothing(t, "the power goes", v, api.ErrBroken)
		d.Crash()
		has(t, "behind a crash", opened(t, d, 1, 3), keyed("a", c), keyed("b", c))
	}
	v, d := fresh(t)
	ok(t, v.Join(keyed("a", c)))
	d.Arm(1)
	said(t, "an error ahead of the sync", v.Remove("a", "a"), api.ErrNone)
	nothing(t, "an error ahead of the sync", v, api.ErrBroken)
	v, d = fresh(t)
	without(t, d)
	said(t, "an error alone", v.Remove("a"), api.ErrNone)
	is(t, "an error alone", v.Broken(), false)
}

func TestNoRoomInARemove(t *testing.T) {
	v, d := fresh(t)
	c := elsewhere(t, 2, api.KindSet, insert("x"))
	ok(t, v.Join(keyed("a", c), keyed("b", c)))
	d.Limit(d.Used() + 10)
	did(t, "no room", d, 2, func() { said(t, "no room", v.Remove("a", "b"), api.ErrFull) })
	has(t, "no room", v, keyed("b", c))
	stays(t, "no room", v, func() { said(t, "no room", v.Remove("b"), api.ErrFull) })
	d.Crash()
	has(t, "no room, behind a crash", opened(t, d, 1, 3), keyed("b", c))
	d.Limit(d.Used() + 100)
	ok(t, v.Remove("b"))
	has(t, "room again", v)
}

// P15.4: Tidy

func tidies(t *testing.T, what string, v *vnode.Vnode, want int, errno api.Errno) {
	t.Helper()
	if n, e := v.Tidy(); n != want || e != errno {
		t.Errorf("%s: Tidy: %d, %d, want %d, %d", what, n, int(e), want, int(errno))
	}
}

// worn is a vnode of one key with so many dead records.
func worn(t *testing.T, v *vnode.Vnode, dead int) {
	t.Helper()
	for range dead + 1 {
		_, e := v.Update("k", api.KindFlag, op(api.OpEnable))
		ok(t, e)
	}
}

func TestTidy(t *testing.T) {
	v, d := fresh(t)
	did(t, "new", d, 0, func() { tidies(t, "new", v, 0, api.OK) })
	worn(t, v, 15)
	did(t, "not due", d, 0, func() { tidies(t, "not due", v, 0, api.OK) })
	worn(t, v, 0)
	stays(t, "due", v, func() { tidies(t, "due", v, 16, api.OK) })
	did(t, "not due again", d, 0, func() { tidies(t, "not due again", v, 0, api.OK) })
	was, _ := v.Get("k")
	is(t, "updates", was.Clock, api.Clock{{Actor: actor(1), N: 17}})
	d.Crash()
	has(t, "opened again", opened(t, d, 1, 3), keyed("k", was))
	// It goes on, by the same epoch.
	updated(t, v, "k", api.KindFlag, op(api.OpEnable), "3 [1/3/1:18] {1/3/1.18}")
	d.Crash()
	gets(t, "gone on", opened(t, d, 1, 3), "k", "3 [1/3/1:18] {1/3/1.18}", api.OK)
}

func TestTidyOfRemovedKeys(t *testing.T) {
	v, d := fresh(t)
	c := elsewhere(t, 2, api.KindSet, insert("x"))
	for i := range 20 {
		ok(t, v.Join(keyed(fmt.Sprint("k", i), c)))
	}
	for i := range 12 {
		ok(t, v.Remove(fmt.Sprint("k", i)))
	}
	// 24 records of 32 are dead, with 8 keys.
	stays(t, "due", v, func() { tidies(t, "due", v, 24, api.OK) })
	is(t, "Len", v.Len(), 8)
	again := opened(t, d, 1, 3)
	has(t, "opened again", again, v.Fold()...)
}

func TestNoRoomInATidy(t *testing.T) {
	v, d := fresh(t)
	worn(t, v, 16)
	d.Limit(d.Used())
	for range 3 {
		stays(t, "no room", v, func() { tidies(t, "no room", v, 0, api.ErrFull) })
	}
	d.Limit(api.MaxRoom)
	tidies(t, "room again", v, 16, api.OK)
}

func TestThePowerGoesInATidy(t *testing.T) {
	first, d := fresh(t)
	worn(t, first, 9)
	worn(t, opened(t, d, 1, 3), 9)
	whole := copied(t, d)
	// Append, Sync, Rename, the Removes of two segments of three, the Sync of the opening.
	const steps = 6
	for k := range steps + 1 {
		for pick := range 50 {
			d := copied(t, whole)
			v := opened(t, d, 1, 3)
			worn(t, v, 0)
			c, _ := v.Get("k")
			d.Arm(k)
			if k == steps {
				tidies(t, "all steps", v, 20, api.OK)
			} else {
				tidies(t, "the power goes", v, 0, api.ErrPower)
				nothing(t, "the power goes", v, api.ErrBroken)
			}
			has(t, "ahead of a crash", v, keyed("k", c))
			d.Crash(pick)
			has(t, "behind a crash", opened(t, d, 1, 3), keyed("k", c))
		}
	}
}

func TestTidyOfAFileThatIsTaken(t *testing.T) {
	v, d := fresh(t)
	worn(t, v, 9)
	v = opened(t, d, 1, 3)
	worn(t, v, 9)
	ok(t, d.Remove("p3.000001"))
	// Another error than ErrFull, with power: the cask itself knows nothing of it.
	tidies(t, "taken", v, 0, api.ErrNone)
	nothing(t, "taken", v, api.ErrBroken)
}

// A replica's cells, joined, are the same whoever is asked.

func TestReplicasJoinOneAnother(t *testing.T) {
	var l []*vnode.Vnode
	for node := 1; node <= 3; node++ {
		v := opened(t, large(), node, 5)
		for i := range 8 {
			key := fmt.Sprint("k", i*node%5)
			_, e := v.Update(key, api.KindSet, insert(fmt.Sprint(node, i)))
			ok(t, e)
		}
		l = append(l, v)
	}
	for range 2 {
		for _, v := range l {
			for _, o := range l {
				ok(t, v.Join(o.Fold()...))
			}
		}
	}
	for _, v := range l {
		has(t, "all alike", v, l[0].Fold()...)
		n := 0
		for _, k := range v.Fold() {
			n += len(cell.Tell(k.Cell).L)
		}
		is(t, "all that was inserted", n, 24)
	}
}

func TestWhatComesBackIsNotMintedAgain(t *testing.T) {
	v, d := fresh(t)
	told := map[api.Dot]struct{}{}
	var last api.Cell
	for i := range 40 {
		c, e := v.Update("k", api.KindCounter, add(1))
		ok(t, e)
		if _, twice := told[v.Minted()]; twice || !clock.Covers(c.Clock, v.Minted()) {
			t.Fatalf("update %d: %s", i, shownDot(v.Minted(), "."))
		}
		told[v.Minted()] = struct{}{}
		last = cell.Join(last, c)
		switch i % 5 {
		case 1:
			ok(t, v.Remove("k"))
		case 2:
			ok(t, v.Remove("k"), v.Join(keyed("k", last)))
		case 3:
			d.Crash()
			v = opened(t, d, 1, 3)
		}
	}
	is(t, "all are told", cell.Tell(last).N, 40)
}

// What a vnode promotes of its cask

func TestItEmbedsItsCask(t *testing.T) {
	v, d := fresh(t)
	worn(t, v, 3)
	var c *cask.Cask = v.Cask
	is(t, "Name", v.Name(), vnode.Name(3))
	is(t, "Disk", v.Disk() == d && c.Disk() == d, true)
	is(t, "Dead", v.Dead(), 3)
	is(t, "Segments", v.Segments(), []int{1})
}
