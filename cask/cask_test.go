package cask_test

import (
	"encoding/binary"
	"fmt"
	"hash/crc32"
	"reflect"
	"slices"
	"strings"
	"testing"

	"murmuration/api"
	"murmuration/cask"
	"murmuration/files"
)

func said(t *testing.T, what string, got, want api.Errno) {
	t.Helper()
	if got != want {
		t.Errorf("%s: %d, want %d", what, int(got), int(want))
	}
}

func ok(t *testing.T, l ...api.Errno) {
	t.Helper()
	for i, e := range l {
		said(t, fmt.Sprintf("call %d", i), e, api.OK)
	}
}

func text(l ...string) string {
	var b []byte
	for _, s := range l {
		b = append(binary.AppendUvarint(b, uint64(len(s))), s...)
	}
	return string(b)
}

// framed and the two below it tell a record once more, by the library's means.
func framed(body string) string {
	return text(body) + string(binary.BigEndian.AppendUint32(nil, crc32.ChecksumIEEE([]byte(body))))
}

func put(key, value string) string { return framed(text(key) + "\x00" + text(value)) }
func gone(key string) string       { return framed(text(key) + "\x01") }

// sized is a value with which the record of a key of one byte has so many bytes, from 200 to 16000 of them.
func sized(size int) string {
	return strings.Repeat("x", size-len(put("k", strings.Repeat("x", 130)))+130)
}

func large() *files.Disk { return files.New(api.MaxRoom) }

func opened(t *testing.T, d *files.Disk, name string) *cask.Cask {
	t.Helper()
	c, e := cask.Open(d, name)
	if c == nil || e != api.OK {
		t.Fatalf("Open(%s): %v, %d", name, c, int(e))
	}
	return c
}

func refused(t *testing.T, d *files.Disk, name string, want api.Errno) {
	t.Helper()
	if c, e := cask.Open(d, name); c != nil || e != want {
		t.Errorf("Open(%.40q): %v, %d, want none, %d", name, c, int(e), int(want))
	}
}

// has says all keys that have a value, each followed by that.
func has(t *testing.T, c *cask.Cask, want ...string) {
	t.Helper()
	var pairs []api.Pair
	for l := range slices.Chunk(want, 2) {
		pairs = append(pairs, api.Pair{Key: l[0], Value: l[1]})
	}
	if got := c.Fold(); !slices.Equal(got, pairs) {
		t.Errorf("Fold: %.200q, want %.200q", got, pairs)
	}
	if got := c.Len(); got != len(pairs) {
		t.Errorf("Len: %d, want %d", got, len(pairs))
	}
	if c.Broken() {
		return
	}
	for _, p := range pairs {
		gets(t, c, p.Key, p.Value, api.OK)
	}
}

func gets(t *testing.T, c *cask.Cask, key, value string, want api.Errno) {
	t.Helper()
	if got, e := c.Get(key); got != value || e != want {
		t.Errorf("Get(%.40q): %.40q, %d, want %.40q, %d", key, got, int(e), value, int(want))
	}
}

func stands(t *testing.T, c *cask.Cask, dead int, segments ...int) {
	t.Helper()
	if c.Dead() != dead || !slices.Equal(c.Segments(), segments) {
		t.Errorf("Dead %d, Segments %v, want %d, %v", c.Dead(), c.Segments(), dead, segments)
	}
}

func holds(t *testing.T, d *files.Disk, name, want string) {
	t.Helper()
	if got, e := d.Read(name); got != want || e != api.OK {
		t.Errorf("Read(%s): %d bytes %.60q, %d, want %d bytes %.60q, 0", name, len(got), got, int(e), len(want), want)
	}
}

func lists(t *testing.T, d *files.Disk, want ...string) {
	t.Helper()
	if got := d.List(""); !slices.Equal(got, want) {
		t.Errorf("List: %q, want %q", got, want)
	}
}

// did says how many steps of the disk some calls take.
func did(t *testing.T, d *files.Disk, want int, calls func()) {
	t.Helper()
	steps := d.Steps()
	calls()
	if got := d.Steps() - steps; got != want {
		t.Errorf("%d steps, want %d", got, want)
	}
}

// picture is all that is told of a cask but its disk.
func picture(c *cask.Cask) string {
	return fmt.Sprintf("%q %d %d %d %v %s", c.Fold(), c.Len(), c.Segments(), c.Dead(), c.Broken(), c.Name())
}

// onDisk is all that is told of a disk.
func onDisk(d *files.Disk) string {
	s := fmt.Sprint(d.On(), d.Used(), d.Steps())
	for _, name := range d.List("") {
		bytes, e := d.Read(name)
		s += fmt.Sprintf(" %s=%q,%d", name, bytes, int(e))
	}
	return s
}

// The chapter's examples

func TestTheExamples(t *testing.T) {
	d := large()
	c := opened(t, d, "v1")
	ok(t, c.Put("a", "1"), c.Put("b", "2"), c.Put("a", "3"), c.Delete("b"))
	said(t, "Delete", c.Delete("b"), api.ErrNone)
	gets(t, c, "a", "3", api.OK)
	gets(t, c, "b", "", api.ErrNone)
	has(t, c, "a", "3")
	stands(t, c, 3, 1)
	ok(t, c.Sync(), c.Put("c", "4"))
	d.Crash()
	has(t, opened(t, d, "v1"), "a", "3")
	if got := cask.File("v1", 7); got != "v1.000007" {
		t.Errorf("File: %s", got)
	}
}

// A nil cask, and a zero one

func TestACaskThatIsNone(t *testing.T) {
	for what, c := range map[string]*cask.Cask{"nil": nil, "zero": {}} {
		said(t, what+": Put", c.Put("a", "1"), api.ErrArg)
		said(t, what+": Put of no key", c.Put("", "1"), api.ErrArg)
		said(t, what+": Put that is too long", c.Put(strings.Repeat("k", 256), "1"), api.ErrArg)
		said(t, what+": Delete", c.Delete("a"), api.ErrArg)
		said(t, what+": Delete of nothing", c.Delete(), api.ErrArg)
		said(t, what+": Sync", c.Sync(), api.ErrArg)
		said(t, what+": Reopen", c.Reopen(), api.ErrArg)
		gets(t, c, "a", "", api.ErrArg)
		if l := c.Fold(); len(l) != 0 {
			t.Errorf("%s: Fold: %v", what, l)
		}
		if c.Len() != 0 || c.Dead() != 0 || len(c.Segments()) != 0 || c.Broken() || c.Name() != "" || c.Disk() != nil {
			t.Errorf("%s: %d, %d, %v, %v, %q, %v", what, c.Len(), c.Dead(), c.Segments(), c.Broken(), c.Name(), c.Disk())
		}
	}
}

func TestACaskHandsOutItsOwnCallsAlone(t *testing.T) {
	var got []string
	kind := reflect.TypeFor[*cask.Cask]()
	for i := range kind.NumMethod() {
		got = append(got, kind.Method(i).Name)
	}
	want := strings.Fields("Broken Dead Delete Disk Fold Get Len Name Put Reopen Segments Sync")
	if !slices.Equal(got, want) {
		t.Errorf("%v, want %v", got, want)
	}
}
