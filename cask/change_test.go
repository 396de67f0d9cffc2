package cask_test

import (
	"fmt"
	"math"
	"strings"
	"testing"

	"murmuration/api"
	"murmuration/cask"
	"murmuration/files"
)

// P4.3

func TestPutAppendsItsRecord(t *testing.T) {
	d := large()
	c := opened(t, d, "v1")
	want := ""
	for i := range 20 {
		key, value := fmt.Sprint("k", i%7), strings.Repeat("v", i)
		did(t, d, 1, func() { ok(t, c.Put(key, value)) })
		want += put(key, value)
		holds(t, d, "v1.000001", want)
		gets(t, c, key, value, api.OK)
	}
	stands(t, c, 13, 1)
	lists(t, d, "v1.000001")
	ok(t, c.Delete("k3"))
	holds(t, d, "v1.000001", want+gone("k3"))
	stands(t, c, 15, 1)
}

func TestPutOfWhatMayNotBe(t *testing.T) {
	for _, power := range []bool{true, false} {
		d := large()
		c := opened(t, d, "v1")
		ok(t, c.Put("a", "1"))
		if !power {
			without(t, d)
		}
		was, wasDisk := picture(c), onDisk(d)
		key, value := strings.Repeat("k", 256), strings.Repeat("v", 60001)
		said(t, "no key", c.Put("", "1"), api.ErrArg)
		said(t, "no key, and too long a value", c.Put("", value), api.ErrArg)
		said(t, "too long a key", c.Put(key, "1"), api.ErrSize)
		said(t, "too long a value", c.Put("a", value), api.ErrSize)
		said(t, "both", c.Put(key, value), api.ErrSize)
		said(t, "very long ones", c.Put(strings.Repeat("k", 1<<24), strings.Repeat("v", 1<<24)), api.ErrSize)
		if picture(c) != was || onDisk(d) != wasDisk {
			t.Errorf("%s, %s, want %s, %s", picture(c), onDisk(d), was, wasDisk)
		}
	}
}

func TestKeysAndValuesOfAllSizes(t *testing.T) {
	d := large()
	c := opened(t, d, "v1")
	for _, k := range []int{1, 2, 127, 128, 254, 255} {
		for _, v := range []int{0, 1, 127, 128, 16383, 16384, 59999, 60000} {
			key, value := strings.Repeat("k", k), strings.Repeat("v", v)
			ok(t, c.Put(key, value))
			gets(t, c, key, value, api.OK)
			gets(t, opened(t, d, "v1"), key, value, api.OK)
		}
	}
	if c.Len() != 6 || c.Dead() != 42 {
		t.Errorf("%d keys, %d dead", c.Len(), c.Dead())
	}
}

func TestAnEmptyValueIsOne(t *testing.T) {
	d := large()
	c := opened(t, d, "v1")
	ok(t, c.Put("a", ""), c.Put("b", "1"), c.Put("b", ""))
	has(t, c, "a", "", "b", "")
	stands(t, c, 1, 1)
	ok(t, c.Reopen())
	has(t, c, "a", "", "b", "")
	ok(t, c.Delete("a", "b"))
	has(t, c)
}

func TestANewSegmentWhereTheNewestIsFull(t *testing.T) {
	for _, l := range []struct {
		sizes []int
		want  int
	}{
		{[]int{4095}, 1}, {[]int{4096}, 2}, {[]int{4097}, 2}, {[]int{9000}, 2},
		{[]int{2000, 2095}, 1}, {[]int{2000, 2096}, 2}, {[]int{4095, 300}, 2}, {[]int{1000, 1000, 1000, 1095}, 1}, {[]int{1000, 1000, 1000, 1096}, 2},
		{[]int{4096, 4096}, 3}, {[]int{4096, 4095}, 2}, {[]int{4095, 4095}, 2}, {[]int{4095, 4095, 4096}, 3}, {[]int{4095, 4095, 4095}, 2},
	} {
		d := large()
		c := opened(t, d, "v1")
		used := 0
		for _, size := range l.sizes {
			ok(t, c.Put("k", sized(size)))
			used += size
			if d.Used() != used {
				t.Fatalf("%d bytes, want %d", d.Used(), used)
			}
		}
		ok(t, c.Put("z", "last"))
		if s := c.Segments(); s[len(s)-1] != l.want || len(s) != l.want {
			t.Errorf("behind %v: segments %v, want %d", l.sizes, s, l.want)
		}
		if s, _ := d.Read(cask.File("v1", l.want)); !strings.HasSuffix(s, put("z", "last")) {
			t.Errorf("behind %v: the last record is not in segment %d", l.sizes, l.want)
		}
	}
}

func TestDeadRecordsFillASegmentToo(t *testing.T) {
	d := large()
	c := opened(t, d, "v1")
	ok(t, c.Put("k", sized(4096-len(gone("k")))), c.Delete("k"))
	stands(t, c, 2, 1)
	ok(t, c.Put("k", "1"))
	stands(t, c, 2, 1, 2)
	ok(t, c.Put("k", sized(4096-len(put("k", "1")))), c.Delete("k"))
	stands(t, c, 5, 1, 2, 3)
	holds(t, d, "v1.000003", gone("k"))
}

func TestANewSegmentBehindEachOpening(t *testing.T) {
	d := large()
	for i := 1; i <= 5; i++ {
		c := opened(t, d, "v1")
		ok(t, c.Put("a", fmt.Sprint(i)), c.Put("b", fmt.Sprint(i)))
		if s := c.Segments(); len(s) != i {
			t.Errorf("opening %d: %v", i, s)
		}
		holds(t, d, cask.File("v1", i), put("a", fmt.Sprint(i))+put("b", fmt.Sprint(i)))
	}
	c := opened(t, d, "v1")
	for i := 6; i <= 9; i++ {
		ok(t, c.Delete("a"), c.Put("a", fmt.Sprint(i)), c.Reopen(), c.Sync())
		if s := c.Segments(); len(s) != i {
			t.Errorf("reopening %d: %v", i, s)
		}
		holds(t, d, cask.File("v1", i), gone("a")+put("a", fmt.Sprint(i)))
	}
}

// firm is what a crash would leave of a cask's keys now.
func firm(t *testing.T, d *files.Disk, name string) *cask.Cask {
	t.Helper()
	d.Crash()
	return opened(t, d, name)
}

func TestTheSegmentAheadIsSynced(t *testing.T) {
	d := large()
	c := opened(t, d, "v1")
	did(t, d, 1, func() { ok(t, c.Put("k", sized(5000))) })
	did(t, d, 2, func() { ok(t, c.Put("b", "2")) })
	stands(t, c, 0, 1, 2)
	has(t, firm(t, d, "v1"), "k", sized(5000))

	// Nothing was appended behind its last sync: no sync once more.
	d = large()
	c = opened(t, d, "v1")
	did(t, d, 2, func() { ok(t, c.Put("k", sized(5000)), c.Sync()) })
	did(t, d, 1, func() { ok(t, c.Put("b", "2")) })
	has(t, firm(t, d, "v1"), "k", sized(5000))

	// The one ahead was there already, and was synced by the opening.
	c = opened(t, d, "v1")
	did(t, d, 1, func() { ok(t, c.Put("c", "3")) })
	did(t, d, 1, func() { ok(t, c.Put("c", "4")) })
}

func TestThePowerGoesInTheSyncOfTheOneAhead(t *testing.T) {
	d := large()
	c := opened(t, d, "v1")
	ok(t, c.Put("k", sized(5000)))
	d.Arm(0)
	said(t, "Put", c.Put("b", "2"), api.ErrPower)
	if !c.Broken() {
		t.Error("not broken")
	}
	stands(t, c, 0, 1)
	d.Crash(5000)
	lists(t, d, "v1.000001")
	has(t, opened(t, d, "v1"), "k", sized(5000))
}

func TestFull(t *testing.T) {
	d := files.New(2*len(put("a", "1")) + 3)
	c := opened(t, d, "v1")
	ok(t, c.Put("a", "1"), c.Put("b", "2"))
	was, wasDisk := picture(c), onDisk(d)
	said(t, "Put", c.Put("c", "3"), api.ErrFull)
	said(t, "Put again", c.Put("a", "3"), api.ErrFull)
	said(t, "Delete", c.Delete("a"), api.ErrFull)
	said(t, "Delete of two", c.Delete("b", "a"), api.ErrFull)
	said(t, "Delete of none", c.Delete("c"), api.ErrNone)
	said(t, "Put of what may not be", c.Put("", ""), api.ErrArg)
	if picture(c) != was || onDisk(d) != wasDisk || c.Broken() {
		t.Errorf("%s, %s, want %s, %s", picture(c), onDisk(d), was, wasDisk)
	}
	ok(t, c.Sync())
	has(t, c, "a", "1", "b", "2")

	// Room again: it goes on in the same segment.
	d.Limit(1000)
	ok(t, c.Put("c", "3"), c.Delete("a"))
	has(t, c, "b", "2", "c", "3")
	stands(t, c, 2, 1)
	has(t, opened(t, d, "v1"), "b", "2", "c", "3")
}

func TestFullAtTheFirstRecordOfASegment(t *testing.T) {
	d := files.New(5)
	c := opened(t, d, "v1")
	for range 3 {
		said(t, "Put", c.Put("a", "1"), api.ErrFull)
	}
	has(t, c)
	stands(t, c, 0)
	lists(t, d)
	d.Limit(5000 + len(put("b", "2")) - 1)
	did(t, d, 1, func() { ok(t, c.Put("k", sized(5000))) })
	// The one ahead is synced once, and that stays.
	did(t, d, 1, func() { said(t, "Put", c.Put("b", "2"), api.ErrFull) })
	did(t, d, 0, func() { said(t, "Put", c.Put("b", "2"), api.ErrFull) })
	stands(t, c, 0, 1)
	lists(t, d, "v1.000001")
	d.Limit(6000)
	did(t, d, 1, func() { ok(t, c.Put("b", "2")) })
	stands(t, c, 0, 1, 2)
	has(t, firm(t, d, "v1"), "k", sized(5000))

	d = files.New(5000)
	c = opened(t, d, "v1")
	ok(t, c.Put("k", sized(5000)))
	said(t, "Put", c.Put("b", "2"), api.ErrFull)
	has(t, firm(t, d, "v1"), "k", sized(5000))
}

func TestDeleteOfSeveralKeys(t *testing.T) {
	d := large()
	c := opened(t, d, "v1")
	ok(t, c.Put("a", "1"), c.Put("b", "2"), c.Put("c", "3"), c.Put("d", "4"))
	was := put("a", "1") + put("b", "2") + put("c", "3") + put("d", "4")
	did(t, d, 0, func() { ok(t, c.Delete()) })
	did(t, d, 2, func() { ok(t, c.Delete("c", "a")) })
	was += gone("c") + gone("a")
	holds(t, d, "v1.000001", was)
	has(t, c, "b", "2", "d", "4")
	stands(t, c, 4, 1)

	// The first error ends it: what is ahead of it is done, what is behind it is not.
	did(t, d, 1, func() { said(t, "Delete", c.Delete("b", "a", "d"), api.ErrNone) })
	was += gone("b")
	holds(t, d, "v1.000001", was)
	has(t, c, "d", "4")
	stands(t, c, 6, 1)
	did(t, d, 1, func() { said(t, "the same one twice", c.Delete("d", "d"), api.ErrNone) })
	has(t, c)
	stands(t, c, 8, 1)
	for _, key := range []string{"", "a", "d", "never", strings.Repeat("k", 256), strings.Repeat("k", 1<<20)} {
		did(t, d, 0, func() { said(t, "Delete of none", c.Delete(key), api.ErrNone) })
	}
	has(t, opened(t, d, "v1"))
	ok(t, c.Put("a", "5"), c.Delete("a"), c.Put("a", "6"))
	has(t, c, "a", "6")
	stands(t, c, 10, 1)
}

func TestDeleteUpToAFullDisk(t *testing.T) {
	d := large()
	c := opened(t, d, "v1")
	ok(t, c.Put("a", "1"), c.Put("b", "2"), c.Put("c", "3"))
	d.Limit(d.Used() + 2*len(gone("a")) - 1)
	said(t, "Delete", c.Delete("b", "a", "c"), api.ErrFull)
	has(t, c, "a", "1", "c", "3")
	stands(t, c, 2, 1)
	has(t, opened(t, d, "v1"), "a", "1", "c", "3")
}

func TestSync(t *testing.T) {
	d := large()
	c := opened(t, d, "v1")
	did(t, d, 0, func() { ok(t, c.Sync(), c.Sync()) })
	ok(t, c.Put("a", "1"))
	did(t, d, 1, func() { ok(t, c.Sync()) })
	did(t, d, 0, func() { ok(t, c.Sync(), c.Sync()) })
	ok(t, c.Put("b", "2"), c.Delete("a"), c.Put("c", "3"))
	did(t, d, 1, func() { ok(t, c.Sync(), c.Sync()) })
	ok(t, c.Put("d", "4"))
	has(t, c, "b", "2", "c", "3", "d", "4")
	c = firm(t, d, "v1")
	has(t, c, "b", "2", "c", "3")
	did(t, d, 0, func() { ok(t, c.Sync()) })
	ok(t, c.Delete("b"))
	did(t, d, 1, func() { ok(t, c.Sync()) })
	has(t, firm(t, d, "v1"), "c", "3")

	// With an error nothing was appended.
	did(t, d, 0, func() {
		c = opened(t, large(), "v1")
		said(t, "Put", c.Put("", ""), api.ErrArg)
		said(t, "Delete", c.Delete("a"), api.ErrNone)
		ok(t, c.Sync())
	})
}

func TestSyncWithNothingToSyncAsksNoPower(t *testing.T) {
	d := large()
	c := opened(t, d, "v1")
	ok(t, c.Put("a", "1"), c.Sync())
	without(t, d)
	ok(t, c.Sync(), c.Delete())
	gets(t, c, "a", "1", api.OK)
	said(t, "Delete of none", c.Delete("b"), api.ErrNone)
	if c.Broken() {
		t.Error("broken")
	}
	said(t, "Delete", c.Delete("a"), api.ErrPower)
	if !c.Broken() {
		t.Error("not broken")
	}
}

// Broken

// brokenOnes are casks that each error of the disk has broken, with keys a and b and a dead record in one segment.
func brokenOnes(t *testing.T) map[string]*cask.Cask {
	t.Helper()
	l := map[string]*cask.Cask{}
	for what, breaks := range map[string]func(c *cask.Cask){
		"Put without power":    func(c *cask.Cask) { without(t, c.Disk()); said(t, "Put", c.Put("c", "3"), api.ErrPower) },
		"Put":                  func(c *cask.Cask) { c.Disk().Arm(0); said(t, "Put", c.Put("c", "3"), api.ErrPower) },
		"Put to a key":         func(c *cask.Cask) { c.Disk().Arm(0); said(t, "Put", c.Put("a", "3"), api.ErrPower) },
		"Delete":               func(c *cask.Cask) { c.Disk().Arm(0); said(t, "Delete", c.Delete("a", "none"), api.ErrPower) },
		"Sync":                 func(c *cask.Cask) { c.Disk().Arm(0); said(t, "Sync", c.Sync(), api.ErrPower) },
		"Sync without power":   func(c *cask.Cask) { without(t, c.Disk()); said(t, "Sync", c.Sync(), api.ErrPower) },
		"Reopen":               func(c *cask.Cask) { c.Disk().Arm(0); said(t, "Reopen", c.Reopen(), api.ErrPower) },
		"Reopen without power": func(c *cask.Cask) { without(t, c.Disk()); said(t, "Reopen", c.Reopen(), api.ErrPower) },
		"Sync of no file": func(c *cask.Cask) {
			ok(t, c.Disk().Rename("v1.000001", "x"))
			said(t, "Sync", c.Sync(), api.ErrNone)
			ok(t, c.Disk().Rename("x", "v1.000001"))
		},
		"Reopen with a broken segment": func(c *cask.Cask) {
			ok(t, c.Disk().Append("v1.000002", framed("none")))
			said(t, "Reopen", c.Reopen(), api.ErrBroken)
			ok(t, c.Disk().Remove("v1.000002"))
		},
	} {
		c := opened(t, large(), "v1")
		ok(t, c.Put("a", "0"), c.Put("a", "1"), c.Put("b", "2"))
		breaks(c)
		l[what] = c
	}
	return l
}

func TestTheCallsOnABrokenCask(t *testing.T) {
	for what, c := range brokenOnes(t) {
		for _, crash := range []bool{false, true} {
			if crash {
				c.Disk().Crash(math.MaxInt)
			}
			was, wasDisk := picture(c), onDisk(c.Disk())
			for range 2 {
				said(t, what+": Put", c.Put("c", "3"), api.ErrBroken)
				said(t, what+": Put of what may not be", c.Put("", "3"), api.ErrBroken)
				said(t, what+": Put of too much", c.Put(strings.Repeat("k", 256), "3"), api.ErrBroken)
				said(t, what+": Delete", c.Delete("a"), api.ErrBroken)
				said(t, what+": Delete of none", c.Delete("none"), api.ErrBroken)
				said(t, what+": Delete of nothing", c.Delete(), api.ErrBroken)
				said(t, what+": Sync", c.Sync(), api.ErrBroken)
				said(t, what+": Reopen", c.Reopen(), api.ErrBroken)
				gets(t, c, "a", "", api.ErrBroken)
				gets(t, c, "none", "", api.ErrBroken)
			}
			if !c.Broken() || picture(c) != was || onDisk(c.Disk()) != wasDisk {
				t.Errorf("%s: %s, %s, want %s, %s", what, picture(c), onDisk(c.Disk()), was, wasDisk)
			}
			// It tells what it had ahead of the error.
			has(t, c, "a", "1", "b", "2")
			stands(t, c, 1, 1)
			if c.Name() != "v1" || c.Disk() == nil {
				t.Errorf("%s: %s, %v", what, c.Name(), c.Disk())
			}
		}
		opened(t, c.Disk(), "v1")
	}
}

func TestNoMoreNumbers(t *testing.T) {
	d := laid(t, "v1.999999", put("a", "1"))
	c := opened(t, d, "v1")
	said(t, "Put of what may not be", c.Put("", ""), api.ErrArg)
	said(t, "Put", c.Put("b", "2"), api.ErrFile)
	if !c.Broken() {
		t.Error("not broken")
	}
	has(t, c, "a", "1")
	stands(t, c, 0, 999999)
	lists(t, d, "v1.999999")
	said(t, "Put", c.Put("b", "2"), api.ErrBroken)
	has(t, opened(t, d, "v1"), "a", "1")
}
