package squash_test

import (
	"fmt"
	"slices"
	"strings"
	"testing"

	"murmuration/api"
	"murmuration/cask"
	"murmuration/files"
	"murmuration/squash"
)

// P5.1

// laid is a disk with the segments of cask v1 that are said, by their numbers, all firm.
func laid(t *testing.T, segments map[int]string) *files.Disk {
	t.Helper()
	d := large()
	for segment, bytes := range segments {
		name := cask.File("v1", segment)
		ok(t, d.Append(name, bytes), d.Sync(name))
	}
	return d
}

// goneIn is how many records of a segment say that a key is gone.
func goneIn(segment string) int {
	l, _, _ := cask.Parse(segment)
	return len(slices.DeleteFunc(l, func(change api.Change) bool { return !change.Dead }))
}

func TestTheSquashedSegment(t *testing.T) {
	for _, l := range []struct {
		what     string
		segments map[int]string
		newest   int
		want     string
		fewer    int
	}{
		{"a value that counts no more", map[int]string{1: put("a", "1") + put("a", "2")}, 1, put("a", "2"), 1},
		{"keys rise", map[int]string{1: put("c", "1") + put("a", "2") + put("b", "3") + put("c", "4")}, 1, put("a", "2") + put("b", "3") + put("c", "4"), 1},
		{"by bytes, a beginning is less", map[int]string{1: put("b", "") + put("\xff", "1") + put("ab", "2") + put("a", "3") + put("B", "4") + put("a\x00", "5") + put("é", "6") + gone("b")}, 1, put("B", "4") + put("a", "3") + put("a\x00", "5") + put("ab", "2") + put("é", "6") + put("\xff", "1"), 2},
		{"a key gone in the one segment", map[int]string{1: put("a", "1") + put("b", "2") + gone("a")}, 1, put("b", "2"), 2},
		{"nothing left in the one segment", map[int]string{1: put("a", "1") + gone("a")}, 1, "", 2},
		{"a key gone that nothing was said of", map[int]string{1: gone("a")}, 1, "", 1},
		{"two segments, none dead", map[int]string{1: put("b", "1"), 2: put("a", "2")}, 2, put("a", "2") + put("b", "1"), 0},
		{"a key gone that is put in an older segment", map[int]string{1: put("a", "1"), 2: gone("a")}, 2, gone("a"), 1},
		{"a key gone that is gone in an older segment", map[int]string{1: put("a", "1") + gone("a"), 2: put("b", "2")}, 2, put("b", "2") + gone("a"), 1},
		{"a key gone in an older segment alone", map[int]string{1: gone("a"), 2: put("b", "2")}, 2, put("b", "2") + gone("a"), 0},
		{"a key gone that the newest alone speaks of", map[int]string{1: put("a", "1"), 2: put("b", "2") + gone("b")}, 2, put("a", "1"), 2},
		{"gone ones rise, behind all values", map[int]string{1: put("z", "1") + put("d", "1") + put("b", "1") + put("c", "1"), 2: gone("c") + gone("d") + gone("b") + put("e", "1") + gone("e")}, 2, put("z", "1") + gone("b") + gone("c") + gone("d"), 5},
		{"one record of a key gone, whoever speaks of it", map[int]string{1: put("a", "1") + gone("a"), 2: put("a", "2") + gone("a"), 3: put("a", "3") + gone("a")}, 3, gone("a"), 5},
		{"a key that was gone, and has a value again", map[int]string{1: put("a", "1") + gone("a"), 2: put("a", "2")}, 2, put("a", "2"), 2},
		{"a key that is only in the midst", map[int]string{3: put("b", "1"), 7: put("a", "1") + gone("a"), 9: put("c", "1")}, 9, put("b", "1") + put("c", "1") + gone("a"), 1},
		{"numbers left out", map[int]string{4: put("a", "1"), 100: put("a", "2"), 999999: put("b", "3")}, 999999, put("a", "2") + put("b", "3"), 1},
		{"what a crash has left of a frame", map[int]string{1: put("a", "1") + put("b", "2")[:4], 2: put("c", "3") + gone("d")[:2]}, 2, put("a", "1") + put("c", "3"), 0},
		{"a beginning of a frame alone", map[int]string{1: put("a", "1")[:1], 2: ""}, 2, "", 0},
		{"empty segments", map[int]string{1: "", 2: "", 3: ""}, 3, "", 0},
		{"empty values", map[int]string{1: put("a", "") + put("b", "1"), 2: put("b", "")}, 2, put("a", "") + put("b", ""), 1},
	} {
		d := laid(t, l.segments)
		c := opened(t, d, "v1")
		was := c.Fold()
		squashes(t, l.what, c, l.fewer, api.OK)
		lists(t, l.what, d, cask.File("v1", l.newest))
		holds(t, d, cask.File("v1", l.newest), l.want)
		if got := c.Fold(); !slices.Equal(got, was) {
			t.Errorf("%s: %q, want %q", l.what, got, was)
		}
		stands(t, c, goneIn(l.want), l.newest)
	}
}

func TestNothingToSquash(t *testing.T) {
	d := large()
	c := opened(t, d, "v1")
	did(t, "no segments", d, 0, func() { squashes(t, "no segments", c, 0, api.OK) })
	lists(t, "no segments", d)
	ok(t, c.Put("a", "1"), c.Put("b", "2"))
	did(t, "one segment", d, 0, func() { squashes(t, "one segment", c, 0, api.OK) })
	holds(t, d, "v1.000001", put("a", "1")+put("b", "2"))
	// It was not opened anew: the segment is written on.
	ok(t, c.Put("c", "3"))
	stands(t, c, 0, 1)

	// An older file on its way stays where there is nothing to do.
	ok(t, d.Append("v1.000001.new", "old"))
	squashes(t, "an older file", c, 0, api.OK)
	lists(t, "an older file", d, "v1.000001", "v1.000001.new")

	d = laid(t, map[int]string{5: put("a", "1") + put("b", "2")[:3]})
	c = opened(t, d, "v1")
	did(t, "a beginning of a frame", d, 0, func() { squashes(t, "a beginning of a frame", c, 0, api.OK) })
	holds(t, d, "v1.000005", put("a", "1")+put("b", "2")[:3])
}

func TestNothingToSquashWithoutPower(t *testing.T) {
	d := large()
	c, two := opened(t, d, "v1"), opened(t, d, "v2")
	ok(t, two.Put("a", "1"))
	without(t, d)
	squashes(t, "no segments", c, 0, api.OK)
	squashes(t, "one segment", two, 0, api.OK)
}

func TestABrokenCaskIsNotSquashed(t *testing.T) {
	for _, segments := range []map[int]string{
		{}, {1: put("a", "1")}, {1: put("a", "1") + put("a", "2")}, {1: put("a", "1"), 2: put("b", "1")},
	} {
		d := laid(t, segments)
		c := opened(t, d, "v1")
		d.Arm(0)
		said(t, "Put", c.Put("c", "3"), api.ErrPower)
		squashes(t, "without power", c, 0, api.ErrBroken)
		d.Crash()
		was := onDisk(d)
		did(t, "broken", d, 0, func() { squashes(t, "with power", c, 0, api.ErrBroken) })
		if onDisk(d) != was {
			t.Errorf("%s, want %s", onDisk(d), was)
		}
	}
}

func TestTheStepsOfASquash(t *testing.T) {
	// Append, Sync and Rename, the others removed one by one, and the Sync of the opening.
	d := laid(t, map[int]string{1: put("a", "1"), 2: put("b", "2"), 3: put("c", "3")})
	c := opened(t, d, "v1")
	did(t, "three segments", d, 6, func() { squashes(t, "three segments", c, 0, api.OK) })

	d = laid(t, map[int]string{1: gone("a")})
	c = opened(t, d, "v1")
	did(t, "one segment", d, 4, func() { squashes(t, "one segment", c, 1, api.OK) })

	// One more, if something is to be synced, and one, if an older file is to be removed.
	d = large()
	c = opened(t, d, "v1")
	ok(t, c.Put("a", "1"), c.Put("a", "2"))
	did(t, "loose", d, 5, func() { squashes(t, "loose", c, 1, api.OK) })
	ok(t, c.Put("a", "3"), d.Append("v1.000002.new", put("x", "1")))
	did(t, "an older file", d, 7, func() { squashes(t, "an older file", c, 1, api.OK) })
	has(t, c, "a", "3")
	holds(t, d, "v1.000002", put("a", "3"))
	lists(t, "an older file", d, "v1.000002")
}

func TestAnOlderFileOnItsWay(t *testing.T) {
	d := laid(t, map[int]string{1: put("a", "1") + put("a", "2"), 2: put("b", "1")})
	for _, name := range []string{"v1.000001.new", "v1.000002.new", "v1.count.new", "v10.000002.new"} {
		ok(t, d.Append(name, "old"))
	}
	c := opened(t, d, "v1")
	squashes(t, "older ones", c, 1, api.OK)
	holds(t, d, "v1.000002", put("a", "2")+put("b", "1"))
	// Just the one that would be in the way is removed.
	lists(t, "older ones", d, "v1.000001.new", "v1.000002", "v1.count.new", "v10.000002.new")
	holds(t, d, "v1.000001.new", "old")
}

func TestItIsOpenedAnew(t *testing.T) {
	d := large()
	c := opened(t, d, "v1")
	ok(t, c.Put("a", "1"), c.Put("a", "2"))
	squashes(t, "one", c, 1, api.OK)
	ok(t, c.Put("b", "3"))
	stands(t, c, 0, 1, 2)
	holds(t, d, "v1.000001", put("a", "2"))
	holds(t, d, "v1.000002", put("b", "3"))
	ok(t, c.Delete("a"))
	stands(t, c, 2, 1, 2)
	squashes(t, "two", c, 1, api.OK)
	holds(t, d, "v1.000002", put("b", "3")+gone("a"))
	stands(t, c, 1, 2)
	// Nothing older is there any more: what is gone needs no record.
	squashes(t, "three", c, 1, api.OK)
	holds(t, d, "v1.000002", put("b", "3"))
	stands(t, c, 0, 2)
	squashes(t, "four", c, 0, api.OK)
}

func TestAllIsSynced(t *testing.T) {
	d := large()
	c := opened(t, d, "v1")
	ok(t, c.Put("a", "1"), c.Put("b", "2"), c.Delete("a"))
	squashes(t, "loose", c, 2, api.OK)
	d.Crash()
	has(t, opened(t, d, "v1"), "b", "2")
	holds(t, d, "v1.000001", put("b", "2"))
}

func TestOtherFilesStay(t *testing.T) {
	d := laid(t, map[int]string{1: put("a", "1"), 2: put("a", "2")})
	others := []string{"a", "v1", "v1.count", "v1.0000001", "v1.00001", "v1.000000", "v1.000001.bak", "v10.000001", "v.000001", "v1-.000002"}
	for _, name := range others {
		ok(t, d.Append(name, "other"))
	}
	c := opened(t, d, "v1")
	squashes(t, "others", c, 1, api.OK)
	want := append(slices.Clone(others), "v1.000002")
	slices.Sort(want)
	lists(t, "others", d, want...)
	for _, name := range others {
		holds(t, d, name, "other")
	}
}

func TestTwoCasksOnOneDisk(t *testing.T) {
	d := large()
	a, b := opened(t, d, "a"), opened(t, d, "b")
	for i := range 20 {
		ok(t, a.Put("k", fmt.Sprint(i)), b.Put("k", fmt.Sprint(-i)))
	}
	was := picture(b)
	squashes(t, "a", a, 19, api.OK)
	if picture(b) != was {
		t.Errorf("%s, want %s", picture(b), was)
	}
	has(t, a, "k", "19")
	has(t, opened(t, d, "b"), "k", "-19")
	squashes(t, "b", b, 19, api.OK)
	has(t, opened(t, d, "a"), "k", "19")
	lists(t, "both", d, "a.000001", "b.000001")
}

func TestALongNameMaySquash(t *testing.T) {
	name := strings.Repeat("n", 20)
	d := large()
	c := opened(t, d, name)
	ok(t, c.Put("a", "1"), c.Put("a", "2"))
	squashes(t, "a long name", c, 1, api.OK)
	lists(t, "a long name", d, name+".000001")
}

func TestLargeKeysAndValuesAreSquashed(t *testing.T) {
	d := large()
	c := opened(t, d, "v1")
	want := ""
	for i := range 60 {
		key, value := fmt.Sprintf("%0255d", i), strings.Repeat(string(rune('a'+i%26)), 60000)
		ok(t, c.Put(key, "old"), c.Put(key, value))
		want += put(key, value)
	}
	ok(t, c.Put("gone", strings.Repeat("x", 60000)), c.Delete("gone"))
	segments := c.Segments()
	if len(segments) < 60 {
		t.Fatalf("%d segments", len(segments))
	}
	squashes(t, "large ones", c, 61, api.OK)
	newest := cask.File("v1", segments[len(segments)-1])
	lists(t, "large ones", d, newest)
	holds(t, d, newest, want+gone("gone"))
}

func TestSquashWithoutRoom(t *testing.T) {
	for _, loose := range []bool{false, true} {
		d := large()
		c := opened(t, d, "v1")
		ok(t, c.Put("a", "1"), c.Put("b", "2"), c.Delete("b"), c.Reopen(), c.Put("a", "3"), c.Put("c", "4"))
		if !loose {
			ok(t, c.Sync())
		}
		fresh := put("a", "3") + put("c", "4") + gone("b")
		d.Limit(d.Used() + len(fresh) - 1)
		was, wasDisk := picture(c), onDisk(d)
		squashes(t, "no room", c, 0, api.ErrFull)
		squashes(t, "no room again", c, 0, api.ErrFull)
		if picture(c) != was || onDisk(d) != wasDisk {
			t.Errorf("%s, %s, want %s, %s", picture(c), onDisk(d), was, wasDisk)
		}
		// It was not opened anew, and goes on.
		d.Limit(d.Used() + len(put("d", "5")))
		ok(t, c.Put("d", "5"))
		stands(t, c, 3, 1, 2)
		d.Limit(d.Used() + len(fresh+put("d", "5")))
		squashes(t, "just room enough", c, 2, api.OK)
		has(t, c, "a", "3", "c", "4", "d", "5")
		stands(t, c, 1, 2)
	}
}

func TestAnOlderFileMakesRoom(t *testing.T) {
	d := laid(t, map[int]string{1: put("a", "1") + put("a", "2")})
	ok(t, d.Append("v1.000001.new", put("a", "2")))
	d.Limit(d.Used())
	c := opened(t, d, "v1")
	squashes(t, "room of the older file", c, 1, api.OK)
	has(t, c, "a", "2")

	// Where that is not enough, it is removed all the same.
	d = laid(t, map[int]string{1: put("a", "1") + put("a", "2")})
	ok(t, d.Append("v1.000001.new", "x"))
	d.Limit(d.Used())
	c = opened(t, d, "v1")
	squashes(t, "no room", c, 0, api.ErrFull)
	lists(t, "no room", d, "v1.000001")
	has(t, c, "a", "2")
}

func TestSquashWithAllFilesThere(t *testing.T) {
	d := laid(t, map[int]string{1: put("a", "1"), 2: put("a", "2")})
	for i := range api.MaxFiles - 2 {
		ok(t, d.Append(fmt.Sprint("other-", i)))
	}
	c := opened(t, d, "v1")
	squashes(t, "no file more", c, 0, api.ErrFull)
	has(t, c, "a", "2")
	stands(t, c, 1, 1, 2)
	ok(t, d.Remove("other-7"))
	squashes(t, "one file more", c, 1, api.OK)
	stands(t, c, 0, 2)
}

func TestSquashWithoutPower(t *testing.T) {
	for what, segments := range map[string]map[int]string{
		"one segment": {1: gone("a")}, "two": {1: put("a", "1"), 2: put("b", "2")},
	} {
		d := laid(t, segments)
		c := opened(t, d, "v1")
		without(t, d)
		squashes(t, what, c, 0, api.ErrPower)
		d.Crash()
		squashes(t, what, opened(t, d, "v1"), len(segments)%2, api.OK)
	}
	// What is loose can't be synced: that breaks the cask.
	d := large()
	c := opened(t, d, "v1")
	ok(t, c.Put("a", "1"), c.Put("a", "2"))
	without(t, d)
	squashes(t, "loose", c, 0, api.ErrPower)
	if !c.Broken() {
		t.Error("not broken")
	}
	squashes(t, "loose, again", c, 0, api.ErrBroken)
}

func TestASegmentThatSomebodyTook(t *testing.T) {
	d := laid(t, map[int]string{1: put("a", "1"), 2: put("b", "2"), 3: put("c", "3")})
	c := opened(t, d, "v1")
	ok(t, d.Remove("v1.000002"))
	was := onDisk(d)
	squashes(t, "taken away", c, 0, api.ErrNone)
	has(t, c, "a", "1", "b", "2", "c", "3")
	if onDisk(d) != was {
		t.Errorf("%s, want %s", onDisk(d), was)
	}
}

func TestWhatASquashLeavesAlone(t *testing.T) {
	d := laid(t, map[int]string{1: put("a", "1"), 2: put("a", "2") + put("b", "3")})
	c := opened(t, d, "v1")
	fold, segments := c.Fold(), c.Segments()
	wasFold, wasSegments := slices.Clone(fold), slices.Clone(segments)
	squashes(t, "told ahead", c, 1, api.OK)
	ok(t, c.Put("c", "4"), c.Delete("a"))
	squashes(t, "told ahead", c, 1, api.OK)
	if !slices.Equal(fold, wasFold) || !slices.Equal(segments, wasSegments) {
		t.Errorf("%v, %v, want %v, %v", fold, segments, wasFold, wasSegments)
	}
	if c.Disk() != d || c.Name() != "v1" {
		t.Error("another disk, or name")
	}
}

// P5.2

func TestDue(t *testing.T) {
	for _, l := range []struct {
		dead, keys int
		want       bool
	}{
		{0, 0, false}, {0, 1, false}, {0, 40, false}, {1, 0, false}, {14, 1, false}, {15, 0, false}, {15, 1, false}, {15, 14, false},
		{16, 0, true}, {16, 1, true}, {16, 15, true}, {16, 16, false}, {16, 17, false}, {17, 16, true}, {17, 17, false},
		{18, 15, true}, {30, 29, true}, {30, 30, false}, {30, 31, false}, {100, 99, true}, {100, 100, false}, {1000, 1, true},
	} {
		bytes := strings.Repeat(gone("x"), l.dead)
		for i := range l.keys {
			bytes += put(fmt.Sprint("k", i), "1")
		}
		d := laid(t, map[int]string{1: bytes})
		c := opened(t, d, "v1")
		did(t, "Due", d, 0, func() {
			if got := squash.Due(c); got != l.want {
				t.Errorf("%d dead, %d keys: %v, want %v", l.dead, l.keys, got, l.want)
			}
		})
	}
}

func TestDueBehindASquash(t *testing.T) {
	d := large()
	c := opened(t, d, "v1")
	for i := range 17 {
		if squash.Due(c) {
			t.Errorf("due behind %d puts", i)
		}
		ok(t, c.Put("a", fmt.Sprint(i)))
	}
	if !squash.Due(c) {
		t.Error("not due behind 17 puts")
	}
	squashes(t, "due", c, 16, api.OK)
	if squash.Due(c) {
		t.Error("due behind a Squash")
	}
}

func TestClean(t *testing.T) {
	d := large()
	stay := []string{
		"a", "new", "v1", "v1.000001", "v1.000002", "v1.000002.neu", "v1.000002.new.x", "v1.count", "v1new", "v1-.000001.new",
		"v10.000001.new", "v.000001.new", "1.000001.new", "xv1.000001.new", "v1.000003new", "v1-new",
	}
	left := []string{"v1.000001.new", "v1.000002.new", "v1.999999.new", "v1.count.new"}
	for _, name := range slices.Concat(stay, left) {
		ok(t, d.Append(name, name))
	}
	did(t, "Clean", d, 4, func() { cleans(t, "four", d, "v1", 4, api.OK) })
	slices.Sort(stay)
	lists(t, "four", d, stay...)
	for _, name := range stay {
		holds(t, d, name, name)
	}
	did(t, "Clean again", d, 0, func() { cleans(t, "none", d, "v1", 0, api.OK) })
	cleans(t, "v10", d, "v10", 1, api.OK)
	cleans(t, "of no files", d, strings.Repeat("n", 20), 0, api.OK)
	cleans(t, "of an empty disk", large(), "v1", 0, api.OK)
}

func TestCleanOfWhatMayNotBe(t *testing.T) {
	d := large()
	for _, name := range []string{"v1.000001.new", ".new", "a.new", "v1.count.new"} {
		ok(t, d.Append(name, "x"))
	}
	was := onDisk(d)
	for _, name := range badNames() {
		cleans(t, fmt.Sprintf("%.20q", name), d, name, 0, api.ErrArg)
	}
	if onDisk(d) != was {
		t.Errorf("%s, want %s", onDisk(d), was)
	}
	without(t, d)
	for _, name := range badNames() {
		cleans(t, fmt.Sprintf("%.20q", name), d, name, 0, api.ErrArg)
	}
	cleans(t, "without power", d, "v1", 0, api.ErrPower)
	cleans(t, "without power, none there", d, "v2", 0, api.ErrPower)
	d.Crash()
	cleans(t, "with power", d, "v1", 2, api.OK)
}

func TestThePowerGoesInAClean(t *testing.T) {
	for k := range 3 {
		d := large()
		for _, name := range []string{"v1.000001.new", "v1.000002.new", "v1.000003.new"} {
			ok(t, d.Append(name, "x"))
		}
		d.Arm(k)
		cleans(t, fmt.Sprint("step ", k), d, "v1", 0, api.ErrPower)
		d.Crash()
		cleans(t, fmt.Sprint("behind step ", k), d, "v1", 3-k, api.OK)
	}
}

func TestACaskIsAsItWasBehindAClean(t *testing.T) {
	d := large()
	c := opened(t, d, "v1")
	ok(t, c.Put("a", "1"), c.Reopen(), c.Put("a", "2"), d.Append("v1.000002.new", put("a", "3")))
	was := picture(c)
	cleans(t, "one", d, "v1", 1, api.OK)
	if picture(c) != was || picture(opened(t, d, "v1")) != was {
		t.Errorf("%s, want %s", picture(c), was)
	}
}
