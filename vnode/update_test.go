package vnode_test

import (
	"fmt"
	"math"
	"testing"

	"murmuration/api"
	"murmuration/cell"
	"murmuration/clock"
	"murmuration/files"
	"murmuration/pack"
	"murmuration/vnode"
)

// P15.3

func TestUpdatesOfEachKind(t *testing.T) {
	v, _ := fresh(t)
	m := api.Field{Kind: api.KindMap, Name: "m"}
	f := api.Field{Kind: api.KindFlag, Name: "f"}
	updated(t, v, "o", api.KindObject, put("a"), `1 [1/3/1:1] {1/3/1.1"a"}`)
	updated(t, v, "c", api.KindCounter, add(-5), `2 [1/3/2:1] {1/3/2.1-5}`)
	updated(t, v, "f", api.KindFlag, op(api.OpEnable), `3 [1/3/3:1] {1/3/3.1}`)
	updated(t, v, "s", api.KindSet, insert("x"), `4 [1/3/4:1] {0"x":{1/3/4.1}}`)
	updated(t, v, "r", api.KindRegister, assign("u", 3), `5 [1/3/5:1] {1/3/5.1"u"@3}`)
	updated(t, v, "m", api.KindMap, in(op(api.OpEnable), m, f), `6 [1/3/6:1] {6"m":{3"f":{1/3/6.1}}}`)
	// Each has seen what is there, but a Put, which has seen nothing.
	updated(t, v, "o", api.KindObject, put("b"), `1 [1/3/1:2] {1/3/1.1"a" 1/3/1.2"b"}`)
	updated(t, v, "c", api.KindCounter, add(1), `2 [1/3/2:2] {1/3/2.1-5 1/3/2.2+1}`)
	updated(t, v, "f", api.KindFlag, op(api.OpDisable), `3 [1/3/3:2] {}`)
	updated(t, v, "s", api.KindSet, remove("x"), `4 [1/3/4:2] {}`)
	updated(t, v, "r", api.KindRegister, assign("v", 2), `5 [1/3/5:2] {1/3/5.2"v"@2}`)
	updated(t, v, "m", api.KindMap, op(api.OpDelete), `6 [1/3/6:2] {}`)
	updated(t, v, "o", api.KindObject, op(api.OpDelete), `1 [1/3/1:3] {}`)
	// What is dead is there all the same.
	is(t, "Len", v.Len(), 6)
	updated(t, v, "new", api.KindObject, op(api.OpDelete), `1 [1/3/7:1] {}`)
}

func TestWhatWasSeen(t *testing.T) {
	v, _ := fresh(t)
	a := updated(t, v, "k", api.KindObject, put("a"), `1 [1/3/1:1] {1/3/1.1"a"}`)
	updated(t, v, "k", api.KindObject, put("b"), `1 [1/3/1:2] {1/3/1.2"b"}`, a.Clock)
	updated(t, v, "k", api.KindObject, put("c"), `1 [1/3/1:3] {1/3/1.2"b" 1/3/1.3"c"}`, nil)
	other := api.Clock{{Actor: clock.Actor(2, 3, 1), N: 4}}
	updated(t, v, "k", api.KindObject, put("d"), `1 [1/3/1:4 2/3/1:4] {1/3/1.3"c" 1/3/1.4"d"}`, other, api.Clock{{Actor: actor(1), N: 2}}, other)
	updated(t, v, "k", api.KindObject, op(api.OpDelete), `1 [1/3/1:5 2/3/1:4] {1/3/1.3"c" 1/3/1.4"d"}`, nil)
	updated(t, v, "k", api.KindObject, op(api.OpDelete), `1 [1/3/1:6 2/3/1:4] {}`)

	c := updated(t, v, "s", api.KindSet, insert("x"), `4 [1/3/2:1] {0"x":{1/3/2.1}}`)
	updated(t, v, "s", api.KindSet, insert("x"), `4 [1/3/2:2] {0"x":{1/3/2.1 1/3/2.2}}`, nil)
	updated(t, v, "s", api.KindSet, remove("x"), `4 [1/3/2:3] {0"x":{1/3/2.2}}`, c.Clock)
}

func TestTheBytesOfAValue(t *testing.T) {
	v, d := fresh(t)
	c := updated(t, v, "k", api.KindCounter, add(-3), `2 [1/3/1:1] {1/3/1.1-3}`)
	dot := "\x81\x80\x80\x80\xb0\x80\x40\x01"
	lies(t, "an update", d, "k", "\x01\x17\x04\x01"+dot+"\x01"+dot+"\x05\x00\x00\x00")
	lies(t, "an update", d, "k", value(1, c))

	// As a Writer lays it down.
	w := pack.Writer{}
	lies(t, "an update", d, "k", w.Num(1).Text(cell.Bytes(c)).Bytes())

	c = elsewhere(t, 2, api.KindCounter, add(7))
	ok(t, v.Join(keyed("j", c)))
	lies(t, "a join", d, "j", value(0, c))
	both, _ := cell.Update(c, add(1), api.Dot{Actor: actor(2), N: 1})
	updated(t, v, "j", api.KindCounter, add(1), shown(both))
	lies(t, "an update behind a join", d, "j", value(2, both))
	ok(t, v.Remove("j"))
	lies(t, "removed", d, "j", "")
}

func TestAnUpdateIsFirm(t *testing.T) {
	v, d := fresh(t)
	var c api.Cell
	// Three steps of the counter, one of the put, one of the sync.
	did(t, "the first one", d, 5, func() { c, _ = v.Update("k", api.KindCounter, add(1)) })
	lists(t, "the first one", d, "p3.000001", "p3.count")
	did(t, "another one", d, 2, func() { c, _ = v.Update("k", api.KindCounter, add(2)) })
	did(t, "another key's", d, 2, func() { v.Update("j", api.KindCounter, add(2)) })
	for range 3 {
		d.Crash()
		gets(t, "behind a crash", opened(t, d, 1, 3), "k", shown(c), api.OK)
	}
}

func TestEpochs(t *testing.T) {
	v, d := fresh(t)
	updated(t, v, "a", api.KindCounter, add(1), `2 [1/3/1:1] {1/3/1.1+1}`)
	updated(t, v, "b", api.KindCounter, add(1), `2 [1/3/2:1] {1/3/2.1+1}`)
	// A key keeps its epoch as long as it is there: whoever opens it, whatever is joined.
	d.Crash()
	v = opened(t, d, 1, 3)
	updated(t, v, "a", api.KindCounter, add(2), `2 [1/3/1:2] {1/3/1.1+1 1/3/1.2+2}`)
	ok(t, v.Join(keyed("a", elsewhere(t, 2, api.KindCounter, add(9)))))
	updated(t, v, "a", api.KindCounter, add(3), `2 [1/3/1:3 2/3/1:1] {1/3/1.1+1 1/3/1.2+2 1/3/1.3+3 2/3/1.1+9}`)
	lists(t, "the counter was asked for no number", d, "p3.000001", "p3.000002", "p3.count")
	ok(t, v.Remove("a", "b"))
	// What it had minted comes back by others: it mints by another actor.
	ok(t, v.Join(keyed("b", cellOf(api.KindCounter, api.Entry{Dot: api.Dot{Actor: actor(2), N: 1}, N: 1}))))
	updated(t, v, "b", api.KindCounter, add(4), `2 [1/3/2:1 1/3/101:1] {1/3/2.1+1 1/3/101.1+4}`)
	updated(t, v, "a", api.KindCounter, add(5), `2 [1/3/102:1] {1/3/102.1+5}`)
	// Each removal costs an epoch, and only the next update takes it.
	for i := range 5 {
		ok(t, v.Remove("a"))
		updated(t, v, "a", api.KindCounter, add(1), fmt.Sprintf(`2 [1/3/%d:1] {1/3/%d.1+1}`, 103+i, 103+i))
	}
}

// cellOf is one that has seen just the entries that it has.
func cellOf(kind int, l ...api.Entry) api.Cell {
	c := api.Cell{Kind: kind}
	for _, e := range l {
		c.Store.Entries = append(c.Store.Entries, e)
		c.Clock = clock.Add(c.Clock, e.Dot)
	}
	return c
}

func TestMinted(t *testing.T) {
	v, d := fresh(t)
	minted := func(what, want string) {
		t.Helper()
		is(t, what, shownDot(v.Minted(), "."), want)
	}
	minted("new", "0/0/0.0")
	v.Update("k", api.KindSet, insert("x"))
	minted("an insert", "1/3/1.1")
	v.Update("j", api.KindSet, insert("x"))
	minted("another key", "1/3/2.1")
	v.Update("k", api.KindSet, remove("y"))
	minted("an update that puts nothing", "1/3/1.2")
	v.Update("k", api.KindSet, add(1))
	v.Update("", api.KindSet, insert("x"))
	v.Update("new", api.KindSet, insert("x"), api.Clock{{Actor: 9, N: 9}})
	minted("refused", "1/3/1.2")
	v.Join(keyed("n", elsewhere(t, 2, api.KindSet, insert("x"))))
	v.Remove("k")
	v.Tidy()
	v.Get("j")
	minted("other calls", "1/3/1.2")
	d.Arm(1)
	v.Update("j", api.KindSet, insert("z"))
	minted("broken", "1/3/1.2")
	d.Crash()
	v = opened(t, d, 1, 3)
	minted("opened again", "0/0/0.0")
}

func TestKeysThatMayNotBe(t *testing.T) {
	v, d := fresh(t)
	did(t, "refused", d, 0, func() {
		for _, key := range []string{"", long(256), long(1 << 20)} {
			fails(t, "a key", v, key, api.KindSet, insert("x"), api.ErrArg)
			// That one is named first.
			fails(t, "a key, and a kind", v, key, 7, insert("x"), api.ErrArg)
			fails(t, "a key, and a size", v, key, api.KindSet, insert(long(1001)), api.ErrArg)
		}
	})
	updated(t, v, "\x00", api.KindSet, insert("x"), `4 [1/3/1:1] {0"x":{1/3/1.1}}`)
	updated(t, v, long(255), api.KindSet, insert("x"), `4 [1/3/2:1] {0"x":{1/3/2.1}}`)
	is(t, "Len", v.Len(), 2)
}

func TestUpdatesThatMayNotBe(t *testing.T) {
	v, d := fresh(t)
	c, _ := v.Update("k", api.KindSet, insert("x"))
	future := api.Clock{{Actor: 9, N: 9}}
	did(t, "refused", d, 0, func() {
		for _, kind := range []int{math.MinInt, -1, 0, 7, math.MaxInt} {
			fails(t, "a kind of none", v, "new", kind, op(api.OpDelete), api.ErrKind)
			fails(t, "a kind of none", v, "k", kind, op(api.OpDelete), api.ErrKind)
		}
		for kind := range 7 {
			if kind != api.KindSet {
				fails(t, "another kind", v, "k", kind, op(api.OpDelete), api.ErrKind)
			}
		}
		fails(t, "another kind, and a size", v, "k", api.KindObject, put(long(20001)), api.ErrKind)
		fails(t, "an operation of another kind", v, "k", api.KindSet, add(1), api.ErrKind)
		fails(t, "an operation of another kind, and a size", v, "k", api.KindSet, put(long(20001)), api.ErrKind)
		fails(t, "an operation of another kind, of a new key", v, "new", api.KindCounter, insert("x"), api.ErrKind)
		fails(t, "a size", v, "k", api.KindSet, insert(long(1001)), api.ErrSize)
		fails(t, "a size, and a context", v, "k", api.KindSet, insert(long(1001)), api.ErrSize, future)
		fails(t, "a size, of a new key", v, "new", api.KindObject, put(long(20001)), api.ErrSize)
		fails(t, "a context", v, "k", api.KindSet, insert("y"), api.ErrContext, future)
		fails(t, "a context among others", v, "k", api.KindSet, op(api.OpDelete), api.ErrContext, c.Clock, future)
	})
	has(t, "refused", v, keyed("k", c))
	// No number was taken yet.
	updated(t, v, "new", api.KindObject, put(long(20000)), fmt.Sprintf(`1 [1/3/2:1] {1/3/2.1%q}`, long(20000)))
}

func TestAContextOfANewKey(t *testing.T) {
	v, d := fresh(t)
	future := api.Clock{{Actor: 9, N: 9}}
	// The number is taken ahead of the context: nothing else is written.
	did(t, "a context", d, 3, func() { fails(t, "a context", v, "k", api.KindSet, insert("x"), api.ErrContext, future) })
	lists(t, "a context", d, "p3.count")
	did(t, "a context again", d, 0, func() { fails(t, "a context", v, "k", api.KindSet, insert("x"), api.ErrContext, future) })
	has(t, "a context", v)
	updated(t, v, "k", api.KindSet, insert("x"), `4 [1/3/3:1] {0"x":{1/3/3.1}}`)
	// An object takes any.
	updated(t, v, "o", api.KindObject, put("x"), `1 [0/0/9:9 1/3/4:1] {1/3/4.1"x"}`, future)
}

func TestAnActorWithoutNumbersLeft(t *testing.T) {
	v, d := fresh(t)
	updated(t, v, "k", api.KindObject, put("x"), `1 [1/3/1:1] {1/3/1.1"x"}`)
	// An object takes any context, also one that says more of its own actor than it has minted.
	last := cellOf(api.KindObject)
	last.Clock = api.Clock{{Actor: actor(1), N: most - 1}}
	ok(t, v.Join(keyed("k", last)))
	updated(t, v, "k", api.KindObject, put("y"), `1 [1/3/1:18446744073709551615] {1/3/1.18446744073709551615"y"}`)
	did(t, "none left", d, 0, func() {
		stays(t, "none left", v, func() { fails(t, "none left", v, "k", api.KindObject, put("z"), api.ErrArg) })
	})
	// It was seen, and is minted in the same update: the dot is covered by what it has seen.
	updated(t, v, "j", api.KindObject, put("x"), `1 [1/3/2:1] {1/3/2.1"x"}`)
	updated(t, v, "j", api.KindObject, put("y"), `1 [1/3/2:7] {1/3/2.2"y"}`, api.Clock{{Actor: actor(2), N: 7}})
	updated(t, v, "j", api.KindObject, put("z"), `1 [1/3/2:8] {1/3/2.2"y" 1/3/2.8"z"}`)
}

// filled is an object of three texts whose value, by an epoch of one byte, has so many bytes.
func filled(t *testing.T, node, size int) api.Cell {
	t.Helper()
	c := elsewhere(t, node, api.KindObject, put(long(20000)), put(long(19000)), put(long(20000)))
	c = elsewhere(t, node, api.KindObject, put(long(20000)), put(long(19000+size-len(value(0, c)))), put(long(20000)))
	is(t, "filled", len(value(0, c)), size)
	return c
}

func TestUpdatesThatAreTooGreat(t *testing.T) {
	for _, more := range []int{0, 1} {
		v, d := fresh(t)
		c := filled(t, 2, 59000)
		ok(t, v.Join(keyed("k", c)))
		next, _ := cell.Update(c, put(long(130)), api.Dot{Actor: actor(1), N: 1})
		u := put(long(130 + 60000 - len(value(1, next)) + more))
		if more == 0 {
			c, e := v.Update("k", api.KindObject, u)
			ok(t, e)
			is(t, "just so many", len(value(1, c)), 60000)
			lies(t, "just so many", d, "k", value(1, c))
			continue
		}
		did(t, "one too many", d, 3, func() { fails(t, "one too many", v, "k", api.KindObject, u, api.ErrSize) })
		has(t, "one too many", v, keyed("k", c))
		lies(t, "one too many", d, "k", value(0, c))
		u.S = u.S[1:]
		updated(t, v, "k", api.KindObject, u, shown(must(cell.Update(c, u, api.Dot{Actor: actor(2), N: 1}))))
	}
}

func must(c api.Cell, e api.Errno) api.Cell {
	if e != api.OK {
		panic(e)
	}
	return c
}

func TestAnEpochOfTwoBytesCounts(t *testing.T) {
	c := filled(t, 2, 59900)
	u := put(long(100 - len(value(0, must(cell.Update(c, put(""), api.Dot{Actor: actor(1), N: 1})))) + 59900))
	d := laid(t, "one", value(127, c), "two", value(128, c))
	v := opened(t, d, 1, 3)
	_, e := v.Update("one", api.KindObject, u)
	said(t, "one byte", e, api.OK)
	_, e = v.Update("two", api.KindObject, u)
	said(t, "two bytes", e, api.ErrSize)
}

func TestNoRoomForANumber(t *testing.T) {
	d := files.New(5)
	v := opened(t, d, 1, 3)
	for range 3 {
		fails(t, "no room", v, "k", api.KindSet, insert("x"), api.ErrFull)
		// The error of the counter is named ahead of that of the context.
		fails(t, "no room", v, "k", api.KindSet, insert("x"), api.ErrFull, api.Clock{{Actor: 9, N: 9}})
	}
	has(t, "no room", v)
	lists(t, "no room", d)
	d.Limit(1000)
	updated(t, v, "k", api.KindSet, insert("x"), `4 [1/3/1:1] {0"x":{1/3/1.1}}`)
}

func TestNoRoomForAValue(t *testing.T) {
	v, d := fresh(t)
	c := updated(t, v, "k", api.KindSet, insert("x"), `4 [1/3/1:1] {0"x":{1/3/1.1}}`)
	d.Limit(d.Used() + 20)
	was := onDisk(d)
	for range 3 {
		fails(t, "no room", v, "k", api.KindSet, insert("y"), api.ErrFull)
		has(t, "no room", v, keyed("k", c))
	}
	is(t, "no room", onDisk(d), was)
	fails(t, "no room for a new one", v, "j", api.KindSet, insert("y"), api.ErrFull)
	d.Limit(d.Used() + 1000)
	// The dot was not told: it is minted now.
	updated(t, v, "k", api.KindSet, insert("y"), `4 [1/3/1:2] {0"x":{1/3/1.1} 0"y":{1/3/1.2}}`)
	updated(t, v, "j", api.KindSet, insert("y"), `4 [1/3/3:1] {0"y":{1/3/3.1}}`)
	is(t, "Broken", v.Broken(), false)
}

func TestNoFileMore(t *testing.T) {
	v, d := fresh(t)
	updated(t, v, "k", api.KindObject, put(long(5000)), fmt.Sprintf(`1 [1/3/1:1] {1/3/1.1%q}`, long(5000)))
	for i := len(d.List("")); i < api.MaxFiles; i++ {
		ok(t, d.Append(fmt.Sprint("other-", i)))
	}
	stays(t, "no file more", v, func() { fails(t, "no file more", v, "k", api.KindObject, put("x"), api.ErrFull) })
	ok(t, d.Remove("other-200"))
	updated(t, v, "k", api.KindObject, put("x"), fmt.Sprintf(`1 [1/3/1:2] {1/3/1.1%q 1/3/1.2"x"}`, long(5000)))
}

func TestThePowerGoesInAnUpdate(t *testing.T) {
	for k := range 6 {
		for _, there := range []bool{false, true} {
			v, d := fresh(t)
			steps, was := 5, []api.Keyed{}
			if there {
				c, _ := v.Update("k", api.KindSet, insert("x"))
				steps, was = 2, append(was, keyed("k", c))
			}
			d.Arm(k)
			if k >= steps {
				_, e := v.Update("k", api.KindSet, insert("y"))
				said(t, "all steps", e, api.OK)
				is(t, "all steps", v.Broken(), false)
				continue
			}
			what := fmt.Sprint("step ", k, ", ", there)
			fails(t, what, v, "k", api.KindSet, insert("y"), api.ErrPower)
			is(t, what, v.Broken(), true)
			fails(t, what, v, "k", api.KindSet, insert("y"), api.ErrBroken)
			if k < steps-1 {
				has(t, what, v, was...)
			}
			// What was laid down and not synced is lost with the power.
			d.Crash()
			nothing(t, what+", with power again", v, api.ErrBroken)
			has(t, what+", opened again", opened(t, d, 1, 3), was...)
		}
	}
}

func TestNoSegmentMore(t *testing.T) {
	d := large()
	ok(t, d.Append("p3.999999"), d.Sync("p3.999999"))
	v := opened(t, d, 1, 3)
	// Another error than ErrFull, and not of power: there is no name for the next file.
	fails(t, "no segment more", v, "k", api.KindSet, insert("x"), api.ErrFile)
	nothing(t, "no segment more", v, api.ErrBroken)
}

func TestEpochsThatNoActorHas(t *testing.T) {
	for _, left := range []uint64{0, 1, 3} {
		d := large()
		w := pack.Writer{}
		frame, e := pack.Frame(w.Num(math.MaxUint32 - left).Bytes())
		ok(t, e, d.Append("p3.count", frame), d.Sync("p3.count"))
		v := opened(t, d, 1, 3)
		for i := range left {
			key := fmt.Sprint("k", i)
			want := uint32(math.MaxUint32 - left + i + 1)
			updated(t, v, key, api.KindCounter, add(1), fmt.Sprintf("2 [1/3/%d:1] {1/3/%d.1+1}", want, want))
		}
		// One more would be minted by an actor whose dots may have been told.
		for range 3 {
			stays(t, "none left", v, func() { fails(t, "none left", v, "k", api.KindCounter, add(1), api.ErrFull) })
		}
		for i := range left {
			_, e := v.Update(fmt.Sprint("k", i), api.KindCounter, add(1))
			said(t, "those that have one go on", e, api.OK)
		}
	}
}

func TestVnodesDoNotMeddle(t *testing.T) {
	d := large()
	var l []*vnode.Vnode
	for p := range 8 {
		l = append(l, opened(t, d, 2, p))
	}
	for i := range 3 {
		for p, v := range l {
			updated(t, v, fmt.Sprint("k", i), api.KindFlag, op(api.OpEnable), fmt.Sprintf("3 [2/%d/%d:1] {2/%d/%d.1}", p, i+1, p, i+1))
		}
	}
	ok(t, l[4].Remove("k0", "k1", "k2"))
	for p, v := range l {
		want := 3
		if p == 4 {
			want = 0
		}
		is(t, "Len", v.Len(), want)
		has(t, "opened again", opened(t, d, 2, p), v.Fold()...)
	}
}
