package squash_test

import (
	"encoding/binary"
	"fmt"
	"hash/crc32"
	"reflect"
	"slices"
	"strings"
	"testing"

	"murmuration/api"
	"murmuration/cask"
	"murmuration/files"
	"murmuration/squash"
)

func said(t *testing.T, what string, got, want api.Errno) {
	t.Helper()
	if got != want {
		t.Errorf("%s: %d, want %d", what, int(got), int(want))
	}
}

func ok(t *testing.T, l ...api.Errno) {
	t.Helper()
	for i, e := range l {
		said(t, fmt.Sprintf("call %d", i), e, api.OK)
	}
}

// framed tells a frame once more, by the library's means.
func framed(body string) string {
	b := append(binary.AppendUvarint(nil, uint64(len(body))), body...)
	return string(binary.BigEndian.AppendUint32(b, crc32.ChecksumIEEE([]byte(body))))
}

// leased is a counter's file.
func leased(n uint64) string { return framed(string(binary.AppendUvarint(nil, n))) }

func record(key, value string, dead bool) string {
	s, e := cask.Record(key, value, dead)
	if e != api.OK {
		panic(e)
	}
	return s
}

func put(key, value string) string { return record(key, value, false) }
func gone(key string) string       { return record(key, "", true) }

func large() *files.Disk { return files.New(api.MaxRoom) }

// without takes a disk's power by a step that does nothing else.
func without(t *testing.T, d *files.Disk) {
	t.Helper()
	ok(t, d.Append("off"))
	d.Arm(0)
	said(t, "the step in which the power goes", d.Remove("off"), api.ErrPower)
}

func opened(t *testing.T, d *files.Disk, name string) *cask.Cask {
	t.Helper()
	c, e := cask.Open(d, name)
	if c == nil || e != api.OK {
		t.Fatalf("Open(%s): %v, %d", name, c, int(e))
	}
	return c
}

func counting(t *testing.T, d *files.Disk, name string) *squash.Counter {
	t.Helper()
	n, e := squash.NewCounter(d, name)
	if n == nil || e != api.OK {
		t.Fatalf("NewCounter(%s): %v, %d", name, n, int(e))
	}
	return n
}

func uncounted(t *testing.T, what string, d *files.Disk, name string, want api.Errno) {
	t.Helper()
	if n, e := squash.NewCounter(d, name); n != nil || e != want {
		t.Errorf("%s: %v, %d, want none, %d", what, n, int(e), int(want))
	}
}

func squashes(t *testing.T, what string, c *cask.Cask, want int, wantE api.Errno) {
	t.Helper()
	if got, e := squash.Squash(c); got != want || e != wantE {
		t.Errorf("%s: Squash: %d, %d, want %d, %d", what, got, int(e), want, int(wantE))
	}
}

func cleans(t *testing.T, what string, d *files.Disk, name string, want int, wantE api.Errno) {
	t.Helper()
	if got, e := squash.Clean(d, name); got != want || e != wantE {
		t.Errorf("%s: Clean: %d, %d, want %d, %d", what, got, int(e), want, int(wantE))
	}
}

func next(t *testing.T, what string, n *squash.Counter, want uint64, wantE api.Errno) {
	t.Helper()
	if got, e := n.Next(); got != want || e != wantE {
		t.Errorf("%s: Next: %d, %d, want %d, %d", what, got, int(e), want, int(wantE))
	}
}

func leases(t *testing.T, what string, n *squash.Counter, want uint64) {
	t.Helper()
	if got := n.Leased(); got != want {
		t.Errorf("%s: Leased: %d, want %d", what, got, want)
	}
}

// has says all keys that have a value, each followed by that.
func has(t *testing.T, c *cask.Cask, want ...string) {
	t.Helper()
	var pairs []api.Pair
	for l := range slices.Chunk(want, 2) {
		pairs = append(pairs, api.Pair{Key: l[0], Value: l[1]})
	}
	if got := c.Fold(); !slices.Equal(got, pairs) {
		t.Errorf("Fold: %.200q, want %.200q", got, pairs)
	}
}

func stands(t *testing.T, c *cask.Cask, dead int, segments ...int) {
	t.Helper()
	if c.Dead() != dead || !slices.Equal(c.Segments(), segments) {
		t.Errorf("Dead %d, Segments %v, want %d, %v", c.Dead(), c.Segments(), dead, segments)
	}
}

func holds(t *testing.T, d *files.Disk, name, want string) {
	t.Helper()
	if got, e := d.Read(name); got != want || e != api.OK {
		t.Errorf("Read(%s): %d bytes %.60q, %d, want %d bytes %.60q, 0", name, len(got), got, int(e), len(want), want)
	}
}

func lists(t *testing.T, what string, d *files.Disk, want ...string) {
	t.Helper()
	if got := d.List(""); !slices.Equal(got, want) {
		t.Errorf("%s: List: %q, want %q", what, got, want)
	}
}

// did says how many steps of the disk some calls take.
func did(t *testing.T, what string, d *files.Disk, want int, calls func()) {
	t.Helper()
	steps := d.Steps()
	calls()
	if got := d.Steps() - steps; got != want {
		t.Errorf("%s: %d steps, want %d", what, got, want)
	}
}

// onDisk is all that is told of a disk but its steps.
func onDisk(d *files.Disk) string {
	s := fmt.Sprint(d.On(), d.Used())
	for _, name := range d.List("") {
		bytes, e := d.Read(name)
		s += fmt.Sprintf(" %s=%q,%d", name, bytes, int(e))
	}
	return s
}

// picture is all that is told of a cask but its disk.
func picture(c *cask.Cask) string {
	return fmt.Sprintf("%q %d %d %d %v %s", c.Fold(), c.Len(), c.Segments(), c.Dead(), c.Broken(), c.Name())
}

// badNames may be no cask's.
func badNames() []string {
	return []string{
		"", ".", "A", "v1.", "v_1", "v 1", "v/1", "é", "\x00", "v1\xff", "`", "{", "@", "[",
		strings.Repeat("n", 21), strings.Repeat("n", 1<<20), "v1.count", "v1.000001", "v1.new",
	}
}

// The chapter's examples

func TestTheExampleOfFortyPuts(t *testing.T) {
	d := large()
	c := opened(t, d, "v1")
	for range 40 {
		ok(t, c.Put("a", "1"))
	}
	if !squash.Due(c) {
		t.Error("not due")
	}
	squashes(t, "forty puts", c, 39, api.OK)
	stands(t, c, 0, 1)
	has(t, c, "a", "1")
}

func TestTheExampleOfThePowerThatGoes(t *testing.T) {
	for k := 0; ; k++ {
		d := large()
		c := opened(t, d, "v1")
		for range 40 {
			ok(t, c.Put("a", "1"))
		}
		ok(t, c.Sync())
		d.Arm(k)
		_, e := squash.Squash(c)
		d.Crash()
		has(t, opened(t, d, "v1"), "a", "1")
		if e == api.OK {
			if k != 4 {
				t.Errorf("%d steps, want 4", k)
			}
			return
		}
		said(t, fmt.Sprint("step ", k), e, api.ErrPower)
	}
}

func TestTheExampleOfTheCounter(t *testing.T) {
	d := large()
	n := counting(t, d, "n")
	next(t, "first", n, 1, api.OK)
	next(t, "second", n, 2, api.OK)
	d.Crash()
	next(t, "opened anew", counting(t, d, "n"), 101, api.OK)
}

// What is none

func TestACaskThatIsNone(t *testing.T) {
	for what, c := range map[string]*cask.Cask{"nil": nil, "zero": {}} {
		squashes(t, what, c, 0, api.ErrArg)
		if squash.Due(c) {
			t.Errorf("%s: due", what)
		}
	}
}

func TestADiskThatIsNone(t *testing.T) {
	for _, name := range append(badNames(), "v1") {
		cleans(t, "nil", nil, name, 0, api.ErrArg)
		uncounted(t, "nil", nil, name, api.ErrArg)
	}
	cleans(t, "zero", &files.Disk{}, "v1", 0, api.ErrPower)
	uncounted(t, "zero", &files.Disk{}, "v1", api.ErrPower)
}

func TestACounterThatIsNone(t *testing.T) {
	for what, n := range map[string]*squash.Counter{"nil": nil, "zero": {}} {
		for range 3 {
			next(t, what, n, 0, api.ErrArg)
			leases(t, what, n, 0)
		}
	}
}

func TestACounterHandsOutItsOwnCallsAlone(t *testing.T) {
	var got []string
	kind := reflect.TypeFor[*squash.Counter]()
	for i := range kind.NumMethod() {
		got = append(got, kind.Method(i).Name)
	}
	if want := []string{"Leased", "Next"}; !slices.Equal(got, want) {
		t.Errorf("%v, want %v", got, want)
	}
	if n := len(reflect.VisibleFields(kind.Elem())); n == 0 || slices.ContainsFunc(reflect.VisibleFields(kind.Elem()), reflect.StructField.IsExported) {
		t.Error("a counter has a field that is handed out, or none")
	}
}
