package cask_test

import (
	"fmt"
	"slices"
	"strings"
	"testing"

	"murmuration/api"
	"murmuration/cask"
)

// P4.4

func TestGet(t *testing.T) {
	c := opened(t, large(), "v1")
	for _, key := range []string{"", "a", "\x00", strings.Repeat("k", 255), strings.Repeat("k", 256), strings.Repeat("k", 1<<20)} {
		gets(t, c, key, "", api.ErrNone)
	}
	ok(t, c.Put("a", "1"))
	gets(t, c, "a", "1", api.OK)
	for _, key := range []string{"", "A", "a\x00", "aa", "b"} {
		gets(t, c, key, "", api.ErrNone)
	}
	ok(t, c.Put("a", "\x00\xff"), c.Put("aa", ""))
	gets(t, c, "a", "\x00\xff", api.OK)
	gets(t, c, "aa", "", api.OK)
	ok(t, c.Delete("a"))
	gets(t, c, "a", "", api.ErrNone)
	ok(t, c.Put("a", "2"))
	gets(t, c, "a", "2", api.OK)
}

func TestFoldRises(t *testing.T) {
	c := opened(t, large(), "v1")
	keys := []string{"b", "a", "ab", "\x00", "\xff", "a\x00", "B", "10", "9", "\xc3\xa4", "z", "\x7f", "\x80", "aa"}
	for i, key := range keys {
		ok(t, c.Put(key, fmt.Sprint(i)))
	}
	want := []string{"\x00", "3", "10", "7", "9", "8", "B", "6", "a", "1", "a\x00", "5", "aa", "13", "ab", "2", "b", "0", "z", "10", "\x7f", "11", "\x80", "12", "\xc3\xa4", "9", "\xff", "4"}
	has(t, c, want...)
	ok(t, c.Reopen())
	has(t, c, want...)
	ok(t, c.Delete(keys[3:]...))
	has(t, c, "a", "1", "ab", "2", "b", "0")
	ok(t, c.Delete(keys[:3]...))
	has(t, c)
}

func TestHowManyAreDead(t *testing.T) {
	d := large()
	c := opened(t, d, "v1")
	for i, l := range []struct {
		call func() api.Errno
		want int
	}{
		{func() api.Errno { return c.Put("a", "1") }, 0},
		{func() api.Errno { return c.Put("b", "1") }, 0},
		{func() api.Errno { return c.Put("a", "1") }, 1},
		{func() api.Errno { return c.Put("a", "2") }, 2},
		{func() api.Errno { return c.Delete("a") }, 4},
		{func() api.Errno { return c.Put("a", "1") }, 4},
		{func() api.Errno { return c.Reopen() }, 4},
		{func() api.Errno { return c.Put("b", sized(5000)) }, 5},
		{func() api.Errno { return c.Put("c", "3") }, 5},
		{func() api.Errno { return c.Delete("c", "b") }, 9},
		{func() api.Errno { return c.Sync() }, 9},
		{func() api.Errno { return c.Reopen() }, 9},
		{func() api.Errno { return c.Delete("a") }, 11},
	} {
		ok(t, l.call())
		if got := c.Dead(); got != l.want {
			t.Errorf("behind call %d: %d dead, want %d", i, got, l.want)
		}
		if got := opened(t, d, "v1").Dead(); got != l.want {
			t.Errorf("opened behind call %d: %d dead, want %d", i, got, l.want)
		}
	}
	has(t, c)

	// A record that says of a key without a value that it is gone is dead, too.
	c = opened(t, laid(t, "v1.000003", gone("a")+gone("a")+put("b", "1")), "v1")
	stands(t, c, 2, 3)
	has(t, c, "b", "1")
}

func TestSegments(t *testing.T) {
	d := large()
	c := opened(t, d, "v1")
	stands(t, c, 0)
	for i := 1; i <= 12; i++ {
		ok(t, c.Put(fmt.Sprint(i), sized(4096)))
		if s := c.Segments(); len(s) != i || s[i-1] != i {
			t.Errorf("%v, want 1 to %d", s, i)
		}
	}
	stands(t, opened(t, d, "v1"), 0, 1, 2, 3, 4, 5, 6, 7, 8, 9, 10, 11, 12)
}

func TestNameAndDisk(t *testing.T) {
	d, other := large(), large()
	one, two := opened(t, d, "v1"), opened(t, other, "v1-2")
	if one.Name() != "v1" || two.Name() != "v1-2" || one.Disk() != d || two.Disk() != other {
		t.Errorf("%s, %s", one.Name(), two.Name())
	}
	ok(t, one.Put("a", "1"), one.Reopen())
	without(t, d)
	if one.Name() != "v1" || one.Disk() != d || one.Broken() {
		t.Errorf("%s, %v", one.Name(), one.Broken())
	}
}

func TestWhatIsToldIsTheOwnersOwn(t *testing.T) {
	d := large()
	c := opened(t, d, "v1")
	ok(t, c.Put("a", "1"), c.Put("b", sized(5000)), c.Put("c", "3"))
	pairs, segments := c.Fold(), c.Segments()
	ok(t, c.Put("a", "2"), c.Delete("c"), c.Reopen(), c.Put("d", "4"))
	if want := []api.Pair{{Key: "a", Value: "1"}, {Key: "b", Value: sized(5000)}, {Key: "c", Value: "3"}}; !slices.Equal(pairs, want) || !slices.Equal(segments, []int{1, 2}) {
		t.Errorf("what was told has changed: %.80v, %v", pairs, segments)
	}
	pairs, segments = c.Fold(), c.Segments()
	clear(pairs)
	clear(segments)
	_, _ = append(pairs[:0], api.Pair{Key: "x"}), append(segments[:0], 9)
	has(t, c, "a", "2", "b", sized(5000), "d", "4")
	stands(t, c, 3, 1, 2, 3)
	ok(t, c.Put("e", "5"))
	stands(t, c, 3, 1, 2, 3)

	keys := []string{"a", "d"}
	ok(t, c.Delete(keys...))
	if !slices.Equal(keys, []string{"a", "d"}) {
		t.Errorf("what was handed in has changed: %v", keys)
	}
	keys[0] = "b"
	has(t, c, "b", sized(5000), "e", "5")
}

func TestReopen(t *testing.T) {
	d := large()
	c := opened(t, d, "v1")
	did(t, d, 0, func() { ok(t, c.Reopen()) })
	has(t, c)
	ok(t, c.Put("a", "1"), c.Put("b", "2"))
	// All that is there is firm then.
	did(t, d, 1, func() { ok(t, c.Reopen()) })
	has(t, c, "a", "1", "b", "2")
	stands(t, c, 0, 1)
	did(t, d, 0, func() { ok(t, c.Sync()) })
	has(t, firm(t, d, "v1"), "a", "1", "b", "2")
	ok(t, c.Put("c", "3"))
	stands(t, c, 0, 1, 2)

	// What others did to the files counts.
	ok(t, d.Remove("v1.000001"), d.Append("v1.000007", put("a", "7")+gone("c")), d.Append("v1.000008", put("z", "8")[:5]))
	ok(t, c.Reopen())
	has(t, c, "a", "7")
	stands(t, c, 2, 2, 7, 8)
	ok(t, c.Put("d", "4"))
	stands(t, c, 2, 2, 7, 8, 9)
	ok(t, d.Remove(d.List("")...), c.Reopen())
	has(t, c)
	stands(t, c, 0)
	ok(t, c.Put("d", "4"))
	stands(t, c, 0, 1)
	if c.Broken() || c.Name() != "v1" || c.Disk() != d {
		t.Errorf("%v, %s", c.Broken(), c.Name())
	}
}

func TestReopenIsAsOpen(t *testing.T) {
	d := large()
	c := opened(t, d, "v1")
	for i := range 200 {
		if i%11 == 10 {
			ok(t, c.Delete(fmt.Sprint((i-1)%9)))
		} else {
			ok(t, c.Put(fmt.Sprint(i%9), strings.Repeat("v", i*7%600)))
		}
		if i%23 == 0 {
			was := picture(c)
			ok(t, c.Reopen())
			if picture(c) != was || picture(opened(t, d, "v1")) != was {
				t.Fatalf("behind call %d: another one than it was", i)
			}
		}
	}
}

func TestReopenThatFails(t *testing.T) {
	for what, l := range map[string]struct {
		ahead func(c *cask.Cask)
		want  api.Errno
	}{
		"without power":     {func(c *cask.Cask) { without(t, c.Disk()) }, api.ErrPower},
		"the power goes":    {func(c *cask.Cask) { c.Disk().Arm(0) }, api.ErrPower},
		"a broken segment":  {func(c *cask.Cask) { ok(t, c.Disk().Append("v1.000001", framed(""))) }, api.ErrBroken},
		"a broken new one":  {func(c *cask.Cask) { ok(t, c.Disk().Append("v1.000003", "\x80\x00")) }, api.ErrBroken},
		"a broken last one": {func(c *cask.Cask) { ok(t, c.Disk().Append("v1.999999", framed("k"))) }, api.ErrBroken},
	} {
		c := opened(t, large(), "v1")
		ok(t, c.Put("a", "0"), c.Put("a", "1"))
		l.ahead(c)
		said(t, what, c.Reopen(), l.want)
		if !c.Broken() {
			t.Errorf("%s: not broken", what)
		}
		has(t, c, "a", "1")
		stands(t, c, 1, 1)
		said(t, what+", once more", c.Reopen(), api.ErrBroken)
	}
}
