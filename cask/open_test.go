package cask_test

import (
	"fmt"
	"strings"
	"testing"

	"murmuration/api"
	"murmuration/cask"
	"murmuration/files"
)

// laid is a disk with these files, each name followed by its bytes, of which none are firm.
func laid(t *testing.T, l ...string) *files.Disk {
	t.Helper()
	d := large()
	for i := 0; i < len(l); i += 2 {
		ok(t, d.Append(l[i], l[i+1]))
	}
	return d
}

func without(t *testing.T, d *files.Disk) *files.Disk {
	t.Helper()
	d.Arm(0)
	said(t, "Append", d.Append("z"), api.ErrPower)
	return d
}

// P4.2

func TestOpenOfWhatMayNotBe(t *testing.T) {
	long := strings.Repeat("n", 21)
	for _, name := range []string{"", "V1", "v.1", "v_1", "v1 ", "v1.000001", "ä", "\x00", long, strings.Repeat("n", 1<<20)} {
		refused(t, large(), name, api.ErrArg)
		refused(t, nil, name, api.ErrArg)
		refused(t, &files.Disk{}, name, api.ErrArg)
		refused(t, without(t, large()), name, api.ErrArg)
	}
	refused(t, nil, "v1", api.ErrArg)
	for _, name := range []string{"v", "v1", "-", "0", long[:20]} {
		d := large()
		has(t, opened(t, d, name))
		lists(t, d)
	}
}

func TestOpenWithoutPower(t *testing.T) {
	refused(t, &files.Disk{}, "v1", api.ErrPower)
	d := without(t, laid(t, "v1.000001", put("a", "1"), "v1.000002", "no record at all"))
	refused(t, d, "v1", api.ErrPower)
	d.Crash(len(put("a", "1")), 0)
	has(t, opened(t, d, "v1"), "a", "1")
}

func TestOpenWithoutSegmentsTakesNoStep(t *testing.T) {
	d := large()
	did(t, d, 0, func() {
		c := opened(t, d, "v1")
		has(t, c)
		stands(t, c, 0)
		if c.Broken() || c.Name() != "v1" || c.Disk() != d {
			t.Errorf("%v, %s, %v", c.Broken(), c.Name(), c.Disk())
		}
	})
	lists(t, d)
}

func TestSegmentsCountByRisingNumbers(t *testing.T) {
	d := laid(t,
		"v1.000010", put("a", "10")+put("b", "10")+gone("c"),
		"v1.000009", put("a", "9")+put("c", "9")+gone("b")+put("d", "9"),
		"v1.999998", put("b", "999998"),
		"v1.000002", put("a", "2")+put("e", "2")+gone("d")+put("b", "2"),
		"v1.100000", gone("e")+gone("nobody"),
		"v1.000011", "",
	)
	c := opened(t, d, "v1")
	has(t, c, "a", "10", "b", "999998", "d", "9")
	stands(t, c, 11, 2, 9, 10, 11, 100000, 999998)
	ok(t, c.Put("f", "anew"))
	stands(t, c, 11, 2, 9, 10, 11, 100000, 999998, 999999)
	holds(t, d, "v1.999999", put("f", "anew"))
}

func TestFilesThatAreNotCalledSo(t *testing.T) {
	d := large()
	for _, name := range []string{
		"v1", "v1.", "v1.1", "v1.00001", "v1.0000001", "v1.1000000", "v1.000000", "v1.00000a", "v1.-00001", "v1.00.001", "v1..00001", "v1.000001.new", "v1.000001-",
		"v1-000001", "v1.count", "v1.new", "v10.000001", "v1-.000001", "v.000001", "v.1.000001", "1.000001", "w1.000001", "av1.000001", "v1.v1.000001",
	} {
		ok(t, d.Append(name, put(name, "1")+"\x00 no record"))
	}
	did(t, d, 0, func() { has(t, opened(t, d, "v1")) })
	ok(t, d.Append("v1.000005", put("a", "5")))
	c := opened(t, d, "v1")
	has(t, c, "a", "5")
	stands(t, c, 0, 5)
}

func TestCasksOfOneDiskAreApart(t *testing.T) {
	d := large()
	names := []string{"v", "v1", "v-1", "v10", "v1-0", "1"}
	for _, name := range names {
		c := opened(t, d, name)
		ok(t, c.Put("name", name), c.Put(name, "key"))
		stands(t, c, 0, 1)
	}
	for _, name := range names {
		c := opened(t, d, name)
		gets(t, c, "name", name, api.OK)
		gets(t, c, name, "key", api.OK)
		if c.Len() != 2 || c.Name() != name || c.Disk() != d {
			t.Errorf("%s: %d keys, %s", name, c.Len(), c.Name())
		}
	}
}

func TestABrokenSegment(t *testing.T) {
	whole, turned := put("a", "1"), []byte(put("b", "2"))
	turned[3] ^= 1
	for what, s := range map[string]string{
		"a byte turned":           string(turned),
		"a byte turned, and more": string(turned) + whole,
		"a body that is none":     framed("nothing of a record"),
		"a body that ends early":  framed(text("k") + "\x00"),
		"an empty key":            framed(text("") + "\x01"),
		"a frame that is none":    "\x80\x00",
		"a frame too long":        "\x81\x80\x04",
	} {
		for _, ahead := range []string{"", whole, whole + whole} {
			for _, at := range []string{"v1.000001", "v1.000002", "v1.000003"} {
				d := large()
				for _, name := range []string{"v1.000001", "v1.000002", "v1.000003"} {
					bytes := whole
					if name == at {
						bytes = ahead + s
					}
					ok(t, d.Append(name, bytes))
				}
				// It is said ahead of the sync, which is not asked for any more.
				d.Arm(0)
				refused(t, d, "v1", api.ErrBroken)
				if !d.On() || d.Steps() != 3 {
					t.Errorf("%s in %s: a broken segment was synced", what, at)
				}
			}
		}
	}
}

func TestASegmentThatEndsTooEarly(t *testing.T) {
	for cut := 1; cut < len(put("c", "3")); cut++ {
		torn := put("c", "3")[:cut]
		d := laid(t, "v1.000001", put("a", "1")+torn, "v1.000002", torn, "v1.000003", put("b", "2")+gone("a")+torn)
		c := opened(t, d, "v1")
		has(t, c, "b", "2")
		stands(t, c, 2, 1, 2, 3)
		ok(t, c.Put("d", "4"), c.Sync())
		stands(t, c, 2, 1, 2, 3, 4)
		holds(t, d, "v1.000003", put("b", "2")+gone("a")+torn)
		c = opened(t, d, "v1")
		has(t, c, "b", "2", "d", "4")
	}
}

func TestTheNewestSegmentIsSynced(t *testing.T) {
	d := laid(t, "v1.000001", put("a", "1"), "v1.000002", put("b", "2"), "v2.000009", put("c", "3"))
	did(t, d, 1, func() { has(t, opened(t, d, "v1"), "a", "1", "b", "2") })
	d.Crash()
	holds(t, d, "v1.000001", "")
	holds(t, d, "v1.000002", put("b", "2"))
	holds(t, d, "v2.000009", "")
	did(t, d, 1, func() { has(t, opened(t, d, "v1"), "b", "2") })
}

func TestThePowerGoesWhileItIsOpened(t *testing.T) {
	d := laid(t, "v1.000001", put("a", "1"), "v1.000002", put("b", "2"))
	d.Arm(0)
	refused(t, d, "v1", api.ErrPower)
	refused(t, d, "v1", api.ErrPower)
	d.Crash(len(put("a", "1")), 3)
	c := opened(t, d, "v1")
	has(t, c, "a", "1")
	stands(t, c, 0, 1, 2)
	d.Arm(1)
	has(t, opened(t, d, "v1"), "a", "1")
	refused(t, d, "v1", api.ErrPower)
}

func TestOpenChangesNothingOnTheDisk(t *testing.T) {
	d := laid(t, "v1.000003", put("a", "1"), "v1.000004", put("b", "2")[:4], "other", "bytes")
	was := strings.TrimPrefix(onDisk(d), fmt.Sprint(true, d.Used(), d.Steps()))
	for range 3 {
		opened(t, d, "v1")
	}
	if now := strings.TrimPrefix(onDisk(d), fmt.Sprint(true, d.Used(), d.Steps())); now != was {
		t.Errorf("%s, want %s", now, was)
	}
}

func TestAsManySegmentsAsFiles(t *testing.T) {
	d := large()
	for i := range api.MaxFiles {
		ok(t, d.Append(cask.File("v1", 3*i+1), put(fmt.Sprint(i%10), fmt.Sprint(i))))
	}
	c := opened(t, d, "v1")
	if c.Len() != 10 || c.Dead() != api.MaxFiles-10 || len(c.Segments()) != api.MaxFiles {
		t.Errorf("%d keys, %d dead, %d segments", c.Len(), c.Dead(), len(c.Segments()))
	}
	gets(t, c, "5", "255", api.OK)
	said(t, "a file too many", c.Put("a", "1"), api.ErrFull)
	if c.Broken() {
		t.Error("broken")
	}
	ok(t, d.Remove(cask.File("v1", 1)), c.Put("a", "1"))
	gets(t, c, "a", "1", api.OK)
}
