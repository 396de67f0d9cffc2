package vnode_test

import (
	"testing"

	"murmuration/api"
	"murmuration/cell"
	"murmuration/tree"
	"murmuration/vnode"
)

// P15.2

func TestGet(t *testing.T) {
	v, d := fresh(t)
	c := elsewhere(t, 2, api.KindRegister, assign("u", 7))
	ok(t, v.Join(keyed("k", c)))
	did(t, "Get", d, 0, func() {
		gets(t, "there", v, "k", `5 [2/3/1:1] {2/3/1.1"u"@7}`, api.OK)
		for _, key := range []string{"", "j", "kk", "K", "k\x00", "\xff", long(255), long(256), long(1 << 20)} {
			gets(t, "not there", v, key, "0 [] {}", api.ErrNone)
		}
	})
	// Nothing of the disk is asked.
	without(t, d)
	gets(t, "without power", v, "k", `5 [2/3/1:1] {2/3/1.1"u"@7}`, api.OK)
	gets(t, "without power", v, "j", "0 [] {}", api.ErrNone)
	is(t, "Broken", v.Broken(), false)
}

func TestKeysRise(t *testing.T) {
	v, _ := fresh(t)
	keys := []string{"\x00", "a", "a\x00", "aa", "ab", "b", "\x7f", "\x80", "\xc3\xa4", "\xff", "\xff\xff"}
	var want []api.Keyed
	for i, key := range keys {
		want = append(want, keyed(key, elsewhere(t, 2, 1+i%6, op(api.OpDelete), op(api.OpDelete))))
	}
	for i := range want {
		ok(t, v.Join(want[i*7%len(want)]))
		is(t, "Len", v.Len(), i+1)
		is(t, "the tree's Len", v.Tree().Len(), i+1)
	}
	has(t, "rising", v, want...)
	ok(t, v.Remove("aa", "\x00"))
	has(t, "rising, two gone", v, append([]api.Keyed{want[1], want[2]}, want[4:]...)...)
}

func TestTheTreeIsItsOwn(t *testing.T) {
	v, _ := fresh(t)
	leaves := v.Tree()
	is(t, "new", leaves.Len(), 0)
	empty := leaves.Root()
	c, _ := v.Update("k", api.KindCounter, add(1))
	is(t, "updated", leaves.Keys(tree.Leaf("k")), []api.Sum{{Key: "k", Sum: cell.Sum(c)}})
	is(t, "dirty", leaves.Dirty(), 1)
	leaves.Root()
	is(t, "asked", v.Tree().Dirty(), 0)
	// A join that does nothing leaves no leaf dirty.
	ok(t, v.Join(keyed("k", c)))
	is(t, "joined with itself", v.Tree().Dirty(), 0)
	c, _ = v.Update("k", api.KindCounter, add(1))
	is(t, "updated again", leaves.Keys(tree.Leaf("k")), []api.Sum{{Key: "k", Sum: cell.Sum(c)}})
	ok(t, v.Remove("k"))
	is(t, "removed", leaves.Root(), empty)
}

// nothing says that each call of a vnode has this error, and tells nothing else.
func nothing(t *testing.T, what string, v *vnode.Vnode, want api.Errno) {
	t.Helper()
	c := elsewhere(t, 2, api.KindSet, insert("x"))
	for _, key := range []string{"", "k", "j", long(256)} {
		gets(t, what, v, key, "0 [] {}", want)
		fails(t, what, v, key, api.KindSet, insert("x"), want)
		fails(t, what, v, key, api.KindSet, insert("x"), want, api.Clock{{Actor: 9, N: 9}})
		fails(t, what, v, key, 99, put(long(30000)), want)
		said(t, what+": Join", v.Join(keyed(key, c)), want)
		said(t, what+": Join", v.Join(keyed(key, c), keyed("k", api.Cell{})), want)
		said(t, what+": Remove", v.Remove(key, key), want)
	}
	said(t, what+": Join of none", v.Join(), want)
	said(t, what+": Remove of none", v.Remove(), want)
	n, e := v.Tidy()
	is(t, what+": Tidy", n, 0)
	said(t, what+": Tidy", e, want)
}

func TestNilAndZero(t *testing.T) {
	for what, v := range map[string]*vnode.Vnode{"nil": nil, "zero": {}} {
		for range 2 {
			nothing(t, what, v, api.ErrArg)
			is(t, what+": Fold", len(v.Fold()), 0)
			is(t, what+": Len", v.Len(), 0)
			is(t, what+": Tree", v.Tree() == nil, true)
			is(t, what+": Minted", v.Minted(), api.Dot{})
			is(t, what+": Broken", v.Broken(), false)
		}
	}
}

func TestBroken(t *testing.T) {
	v, d := fresh(t)
	for range 20 {
		v.Update("k", api.KindSet, insert("x"))
	}
	c, _ := v.Get("k")
	was := v.Minted()
	d.Arm(0)
	fails(t, "the power goes", v, "k", api.KindSet, insert("y"), api.ErrPower)
	is(t, "Broken", v.Broken(), true)
	for _, power := range []string{"without power", "with power"} {
		did(t, power, d, 0, func() { nothing(t, power, v, api.ErrBroken) })
		has(t, power, v, keyed("k", c))
		is(t, "Minted", v.Minted(), was)
		d.Crash()
	}
	// Another one is not.
	again := opened(t, d, 1, 3)
	is(t, "opened again", again.Broken(), false)
	has(t, "opened again", again, keyed("k", c))
}
