package files_test

import (
	"fmt"
	"math"
	"slices"
	"strings"
	"testing"

	"murmuration/api"
	"murmuration/files"
)

func said(t *testing.T, what string, got, want api.Errno) {
	t.Helper()
	if got != want {
		t.Errorf("%s: %d, want %d", what, int(got), int(want))
	}
}

func ok(t *testing.T, l ...api.Errno) {
	t.Helper()
	for i, e := range l {
		said(t, fmt.Sprintf("call %d", i), e, api.OK)
	}
}

func holds(t *testing.T, d *files.Disk, name, want string) {
	t.Helper()
	if got, e := d.Read(name); got != want || e != api.OK {
		t.Errorf("Read(%s): %.40q, %d, want %.40q, 0", name, got, int(e), want)
	}
}

// reads says what error Read must tell, and that it tells no bytes with it.
func reads(t *testing.T, d *files.Disk, name string, want api.Errno) {
	t.Helper()
	if got, e := d.Read(name); got != "" || e != want {
		t.Errorf("Read(%.40q): %.40q, %d, want nothing, %d", name, got, int(e), int(want))
	}
}

func lists(t *testing.T, d *files.Disk, prefix string, want ...string) {
	t.Helper()
	if got := d.List(prefix); !slices.Equal(got, want) {
		t.Errorf("List(%q): %q, want %q", prefix, got, want)
	}
}

func stands(t *testing.T, d *files.Disk, on bool, used, steps int) {
	t.Helper()
	if d.On() != on || d.Used() != used || d.Steps() != steps {
		t.Errorf("On %v, Used %d, Steps %d, want %v, %d, %d", d.On(), d.Used(), d.Steps(), on, used, steps)
	}
}

// picture is all that is told of a disk.
func picture(d *files.Disk) string {
	s := fmt.Sprint(d.On(), d.Used(), d.Steps())
	for _, name := range d.List("") {
		bytes, e := d.Read(name)
		s += fmt.Sprintf(" %s=%q,%d", name, bytes, int(e))
	}
	return s
}

// made is a disk with much room and files of these names, each with its name as its bytes.
func made(t *testing.T, names ...string) *files.Disk {
	t.Helper()
	d := files.New(api.MaxRoom)
	for _, name := range names {
		ok(t, d.Append(name, name))
	}
	return d
}

// without is a disk whose power has gone in its first step.
func without(t *testing.T, names ...string) *files.Disk {
	t.Helper()
	d := made(t, names...)
	d.Arm(0)
	said(t, "Append, in whose step the power goes", d.Append("z"), api.ErrPower)
	return d
}

var wrongNames = []string{"", "A", "a b", "a_b", "a/b", "a\x00", "\xff", "é", "Z", "a\n", "*", strings.Repeat("a", 33), strings.Repeat("a", 100000)}

func TestTheExamples(t *testing.T) {
	d := files.New(10)
	said(t, "Append(a, he, llo)", d.Append("a", "he", "llo"), api.OK)
	said(t, "Append(b, 123456)", d.Append("b", "123456"), api.ErrFull)
	stands(t, d, true, 5, 1)
	said(t, "Sync(a)", d.Sync("a"), api.OK)
	said(t, "Append(a, xyz)", d.Append("a", "xyz"), api.OK)
	d.Crash(2)
	holds(t, d, "a", "helloxy")
	said(t, "Rename(a, b)", d.Rename("a", "b"), api.OK)
	reads(t, d, "a", api.ErrNone)
	lists(t, d, "", "b")
	said(t, "Remove(b, b)", d.Remove("b", "b"), api.ErrNone)
	lists(t, d, "")
	d.Arm(0)
	said(t, "Append(c, q)", d.Append("c", "q"), api.ErrPower)
	stands(t, d, false, 1, 6)
	d.Crash(1)
	holds(t, d, "c", "q")
}

// P3.1

func TestNewHasNoFilesAndPower(t *testing.T) {
	d := files.New(5)
	stands(t, d, true, 0, 0)
	lists(t, d, "")
	reads(t, d, "a", api.ErrNone)
	for range 5 {
		ok(t, d.Append("a", "x"))
	}
	said(t, "a sixth byte", d.Append("a", "x"), api.ErrFull)
}

func TestDisksHaveNothingInCommon(t *testing.T) {
	a, b := files.New(10), files.New(10)
	ok(t, a.Append("a", "1234567890"))
	stands(t, b, true, 0, 0)
	a.Arm(0)
	ok(t, b.Append("b", "1"))
	lists(t, a, "", "a")
	lists(t, b, "", "b")
}

// roomOf says that there is room for just so many bytes.
func roomOf(t *testing.T, d *files.Disk, room int) {
	t.Helper()
	s := strings.Repeat("x", room+1)
	said(t, fmt.Sprintf("%d bytes and one more", room), d.Append("a", s), api.ErrFull)
	stands(t, d, true, 0, 0)
	lists(t, d, "")
	said(t, fmt.Sprintf("%d bytes", room), d.Append("a", s[1:]), api.OK)
	stands(t, d, true, room, 1)
	said(t, "a byte above the room", d.Append("a", "x"), api.ErrFull)
	said(t, "a byte above the room in another file", d.Append("b", "x"), api.ErrFull)
	said(t, "no byte above the room", d.Append("b", "", ""), api.OK)
	stands(t, d, true, room, 2)
	lists(t, d, "", "a", "b")
}

func TestRoomsAreKeptFromNoneToTheGreatest(t *testing.T) {
	for room, want := range map[int]int{
		math.MinInt: 0, -1 << 24: 0, -1: 0, 0: 0, 1: 1, 10: 10, 65536: 65536,
		api.MaxRoom - 1: api.MaxRoom - 1, api.MaxRoom: api.MaxRoom, api.MaxRoom + 1: api.MaxRoom, math.MaxInt: api.MaxRoom,
	} {
		roomOf(t, files.New(room), want)
		d := files.New(77)
		d.Limit(room)
		roomOf(t, d, want)
	}
}

func TestPartsStandBehindTheBytesThereAre(t *testing.T) {
	d := files.New(100)
	ok(t, d.Append("a"))
	holds(t, d, "a", "")
	stands(t, d, true, 0, 1)
	ok(t, d.Append("a", ""), d.Append("a", "", "", ""), d.Append("b", "", ""))
	stands(t, d, true, 0, 4)
	lists(t, d, "", "a", "b")
	ok(t, d.Append("a", "one"), d.Append("a", "", "two", "", "\x00\xff", ""), d.Append("a"), d.Append("b", "B"), d.Append("a", "3"))
	holds(t, d, "a", "onetwo\x00\xff3")
	holds(t, d, "b", "B")
	stands(t, d, true, 10, 9)
}

func TestTheRoomIsThatOfAllFilesTogether(t *testing.T) {
	d := files.New(10)
	ok(t, d.Append("a", "123"), d.Append("b", "45", "6"), d.Append("c", "789"))
	said(t, "two bytes where there is room for one", d.Append("d", "a", "b"), api.ErrFull)
	said(t, "two bytes, the first of which fits", d.Append("a", "", "a", "", "b"), api.ErrFull)
	stands(t, d, true, 9, 3)
	holds(t, d, "a", "123")
	ok(t, d.Append("d", "", "a"))
	said(t, "one byte where there is room for none", d.Append("d", "b"), api.ErrFull)
	ok(t, d.Append("d"), d.Append("e", ""))
	stands(t, d, true, 10, 6)
	ok(t, d.Remove("a"))
	said(t, "four bytes where a file of three is gone", d.Append("d", "bcde"), api.ErrFull)
	ok(t, d.Append("d", "bcd"), d.Rename("b", "d"))
	stands(t, d, true, 6, 9)
	said(t, "five bytes where another file was renamed onto one of four", d.Append("f", "12345"), api.ErrFull)
	ok(t, d.Append("f", "1234"))
	d.Crash()
	stands(t, d, true, 0, 10)
	ok(t, d.Append("f", "0123456789"))
}

func TestThereAreSoManyFilesAndNoMore(t *testing.T) {
	d := files.New(1000)
	for i := range api.MaxFiles {
		ok(t, d.Append(fmt.Sprint("f", i), "x"))
	}
	before := picture(d)
	said(t, "one file more", d.Append("g", "x"), api.ErrFull)
	said(t, "one file more without a byte", d.Append("g"), api.ErrFull)
	if got := picture(d); got != before {
		t.Errorf("ErrFull has changed something: %s", got)
	}
	ok(t, d.Append("f0", "y"), d.Append("f255"), d.Rename("f0", "g"))
	said(t, "one file more behind a Rename", d.Append("f0"), api.ErrFull)
	ok(t, d.Rename("f1", "f2"), d.Append("f0"))
	said(t, "one file more again", d.Append("f1"), api.ErrFull)
	ok(t, d.Remove("g"), d.Append("f1"))
	said(t, "one file more behind a Remove", d.Append("g"), api.ErrFull)
	if got := len(d.List("")); got != api.MaxFiles {
		t.Errorf("%d files", got)
	}
	d.Crash()
	said(t, "one file more behind a crash", d.Append("g"), api.ErrFull)
}

func TestSyncGoesFileByFile(t *testing.T) {
	d := made(t, "a", "b", "c", "d")
	ok(t, d.Sync())
	stands(t, d, true, 4, 4)
	ok(t, d.Sync("a", "a", "c", "a"))
	stands(t, d, true, 4, 8)
	said(t, "Sync of one that isn't there", d.Sync("b", "e", "d"), api.ErrNone)
	stands(t, d, true, 4, 9)
	d.Crash()
	for name, want := range map[string]string{"a": "a", "b": "b", "c": "c", "d": ""} {
		holds(t, d, name, want)
	}
}

func TestSyncIsOfTheBytesThereAreThen(t *testing.T) {
	d := files.New(100)
	ok(t, d.Append("a", "one"), d.Sync("a"), d.Append("a", "two"), d.Sync("a"), d.Append("a", "three"))
	holds(t, d, "a", "onetwothree")
	d.Crash()
	holds(t, d, "a", "onetwo")
}

// P3.1 to P3.3: names

// tried says what each call that takes a name says of this one, of a disk that has no file of it; the two calls that make one come last.
func tried(t *testing.T, name string, want, missing api.Errno) {
	t.Helper()
	d := made(t, "q")
	what := fmt.Sprintf(" of the name %.40q", name)
	said(t, "Sync"+what, d.Sync(name), missing)
	said(t, "Sync behind another one"+what, d.Sync("q", name), missing)
	said(t, "Remove"+what, d.Remove(name), missing)
	said(t, "Rename from one"+what, d.Rename(name, "r"), missing)
	reads(t, d, name, missing)
	stands(t, d, true, 1, 2)
	said(t, "Rename"+what, d.Rename("q", name), want)
	said(t, "Append"+what, d.Append(name, "x"), want)
	if want != api.OK {
		stands(t, d, true, 1, 2)
		lists(t, d, "", "q")
		return
	}
	holds(t, d, name, "qx")
	lists(t, d, "", name)
}

func TestNamesOfOneByte(t *testing.T) {
	for b := range 256 {
		name := string([]byte{byte(b)})
		if strings.Contains("abcdefghijklmnoprstuvwxyz0123456789.-", name) {
			tried(t, name, api.OK, api.ErrNone)
		} else if name != "q" {
			tried(t, name, api.ErrFile, api.ErrFile)
		}
	}
}

func TestEachByteOfANameCounts(t *testing.T) {
	for _, size := range []int{2, 3, 31, 32} {
		name := strings.Repeat("a", size)
		for at := range size {
			for _, b := range "A_ /\x00\x7f`{:@" {
				tried(t, name[:at]+string(b)+name[at+1:], api.ErrFile, api.ErrFile)
			}
			for _, b := range "az09.-" {
				tried(t, name[:at]+string(b)+name[at+1:], api.OK, api.ErrNone)
			}
		}
	}
}

func TestNamesOfAllSizes(t *testing.T) {
	for size := 1; size <= 32; size++ {
		tried(t, strings.Repeat("n", size), api.OK, api.ErrNone)
	}
	tried(t, strings.Repeat(".", 32), api.OK, api.ErrNone)
	tried(t, "..", api.OK, api.ErrNone)
	for _, name := range wrongNames {
		tried(t, name, api.ErrFile, api.ErrFile)
	}
}

func TestErrorsComeInTheirOrder(t *testing.T) {
	d := files.New(1)
	ok(t, d.Append("a", "x"))
	for _, name := range wrongNames {
		said(t, "Append of a wrong name that doesn't fit", d.Append(name, "too", "long"), api.ErrFile)
		said(t, "Sync of a wrong name ahead of one that isn't there", d.Sync(name, "b"), api.ErrFile)
		said(t, "Sync of one that isn't there ahead of a wrong name", d.Sync("b", name), api.ErrNone)
		said(t, "Remove of a wrong name ahead of one that isn't there", d.Remove(name, "b"), api.ErrFile)
		said(t, "Remove of one that isn't there ahead of a wrong name", d.Remove("b", name), api.ErrNone)
		said(t, "Rename of one that isn't there to a wrong name", d.Rename("b", name), api.ErrFile)
		said(t, "Rename of a wrong name to another one", d.Rename(name, name), api.ErrFile)
		said(t, "Rename of a wrong name", d.Rename(name, "a"), api.ErrFile)
	}
	stands(t, d, true, 1, 1)
	holds(t, d, "a", "x")
	d.Arm(0)
	said(t, "Sync", d.Sync("a"), api.ErrPower)
	for _, name := range append([]string{"a", "b"}, wrongNames...) {
		said(t, "Append without power", d.Append(name, "too", "long"), api.ErrPower)
		said(t, "Sync without power", d.Sync(name), api.ErrPower)
		said(t, "Remove without power", d.Remove(name, name), api.ErrPower)
		said(t, "Rename without power", d.Rename(name, name), api.ErrPower)
		reads(t, d, name, api.ErrPower)
	}
	stands(t, d, false, 1, 2)
	d.Crash(1)
	holds(t, d, "a", "x")
}

// P3.2

func TestRenameOntoNothing(t *testing.T) {
	d := made(t, "a", "b")
	ok(t, d.Rename("a", "c"))
	lists(t, d, "", "b", "c")
	holds(t, d, "c", "a")
	holds(t, d, "b", "b")
	reads(t, d, "a", api.ErrNone)
	stands(t, d, true, 2, 3)
	ok(t, d.Append("c", "x"), d.Append("a", "new"))
	holds(t, d, "c", "ax")
	holds(t, d, "a", "new")
}

func TestRenameOntoAnother(t *testing.T) {
	d := made(t, "a", "bbb", "c")
	ok(t, d.Rename("a", "bbb"))
	lists(t, d, "", "bbb", "c")
	holds(t, d, "bbb", "a")
	stands(t, d, true, 2, 4)
	said(t, "Rename of what was renamed", d.Rename("a", "c"), api.ErrNone)
	lists(t, d, "", "bbb", "c")
	stands(t, d, true, 2, 4)
}

func TestRenameOntoItself(t *testing.T) {
	d := made(t, "a")
	ok(t, d.Sync("a"), d.Append("a", "xyz"), d.Rename("a", "a"))
	lists(t, d, "", "a")
	holds(t, d, "a", "axyz")
	stands(t, d, true, 4, 4)
	d.Crash(1)
	holds(t, d, "a", "ax")
	said(t, "Rename of none onto itself", d.Rename("b", "b"), api.ErrNone)
	lists(t, d, "", "a")
}

func TestRenameTakesAlongWhatIsFirm(t *testing.T) {
	d := made(t, "a", "bbb")
	ok(t, d.Sync("bbb"), d.Append("bbb", "-"), d.Rename("a", "bbb"))
	d.Crash()
	holds(t, d, "bbb", "")
	ok(t, d.Append("c", "firm"), d.Sync("c"), d.Append("c", "loose"), d.Rename("c", "bbb"))
	d.Crash(2)
	holds(t, d, "bbb", "firmlo")
}

func TestRemoveGoesFileByFile(t *testing.T) {
	d := made(t, "a", "b", "c", "d", "e")
	ok(t, d.Remove())
	stands(t, d, true, 5, 5)
	ok(t, d.Remove("b", "a"))
	lists(t, d, "", "c", "d", "e")
	stands(t, d, true, 3, 7)
	said(t, "Remove of one twice", d.Remove("c", "c", "d"), api.ErrNone)
	lists(t, d, "", "d", "e")
	said(t, "Remove of one that isn't there", d.Remove("x", "d"), api.ErrNone)
	said(t, "Remove of a wrong name", d.Remove("d", "X", "e"), api.ErrFile)
	lists(t, d, "", "e")
	stands(t, d, true, 1, 9)
	ok(t, d.Append("a", "anew"))
	holds(t, d, "a", "anew")
}

func TestNamesChangeForGood(t *testing.T) {
	d := made(t, "a", "b", "c")
	ok(t, d.Sync("a", "b", "c"), d.Remove("a"), d.Rename("b", "d"), d.Append("e"))
	d.Crash()
	lists(t, d, "", "c", "d", "e")
	holds(t, d, "d", "b")
	ok(t, d.Append("a", "xyz"))
	d.Crash()
	holds(t, d, "a", "")
}

// P3.3

func TestListIsOfEachBeginning(t *testing.T) {
	d := made(t, "b", "a.2", "a.10", "a", "-", "a-1", "0", "aa", "ab.new", ".")
	lists(t, d, "", "-", ".", "0", "a", "a-1", "a.10", "a.2", "aa", "ab.new", "b")
	for prefix, want := range map[string][]string{
		"a": {"a", "a-1", "a.10", "a.2", "aa", "ab.new"}, "a.": {"a.10", "a.2"}, "a.10": {"a.10"}, "a.100": nil, "-": {"-"}, ".": {"."},
		"c": nil, "A": nil, "\x00": nil, "\xff": nil, "é": nil, " ": nil, "ab.new": {"ab.new"}, "ab.new2": nil, "b": {"b"}, strings.Repeat("a", 1000): nil,
	} {
		lists(t, d, prefix, want...)
	}
	stands(t, d, true, 23, 10)
	lists(t, without(t, "a", "b"), "")
	lists(t, without(t, "a", "b"), "a")
	lists(t, files.New(7), "")
}

func TestReadIsNoStep(t *testing.T) {
	d := made(t, "a")
	d.Arm(0)
	for range 3 {
		holds(t, d, "a", "a")
		reads(t, d, "b", api.ErrNone)
		lists(t, d, "", "a")
	}
	stands(t, d, true, 1, 1)
}

func TestLimitBelowWhatIsUsed(t *testing.T) {
	d := files.New(10)
	ok(t, d.Append("a", "12345"), d.Append("b", "678"))
	d.Limit(4)
	holds(t, d, "a", "12345")
	stands(t, d, true, 8, 2)
	said(t, "a byte", d.Append("a", "x"), api.ErrFull)
	said(t, "no byte, where there are more than the room is for", d.Append("a"), api.ErrFull)
	ok(t, d.Sync("a", "b"), d.Rename("b", "c"), d.Remove("a"))
	said(t, "two bytes", d.Append("c", "xy"), api.ErrFull)
	ok(t, d.Append("c", "x"))
	d.Limit(1000)
	ok(t, d.Append("c", strings.Repeat("y", 996)))
	d.Limit(-1)
	stands(t, d, true, 1000, 8)
	d.Crash(996)
	holds(t, d, "c", "678x"+strings.Repeat("y", 995))
	said(t, "a byte, with no room at all", d.Append("c", "z"), api.ErrFull)
}

func TestTheRoomIsKeptWithoutPower(t *testing.T) {
	d := files.New(3)
	d.Arm(0)
	said(t, "Append", d.Append("a", "xyz"), api.ErrPower)
	d.Limit(5)
	stands(t, d, false, 3, 1)
	d.Crash(3)
	said(t, "three bytes more", d.Append("a", "123"), api.ErrFull)
	ok(t, d.Append("a", "12"))
}

// R1

func TestANilDisk(t *testing.T) {
	var d *files.Disk
	for _, name := range append([]string{"a"}, wrongNames...) {
		said(t, "Append", d.Append(name, "x"), api.ErrPower)
		said(t, "Sync", d.Sync(name), api.ErrPower)
		said(t, "Rename", d.Rename(name, "b"), api.ErrPower)
		said(t, "Remove", d.Remove(name, name), api.ErrPower)
		reads(t, d, name, api.ErrPower)
		lists(t, d, name)
	}
	said(t, "Append of nothing", d.Append("a"), api.ErrPower)
	said(t, "Sync of nothing", d.Sync(), api.ErrPower)
	said(t, "Remove of nothing", d.Remove(), api.ErrPower)
	for _, n := range []int{math.MinInt, -1, 0, 1, math.MaxInt} {
		d.Limit(n)
		d.Arm(n)
		d.Crash(n, n)
	}
	d.Crash()
	stands(t, d, false, 0, 0)
}

func TestAZeroDisk(t *testing.T) {
	d := &files.Disk{}
	stands(t, d, false, 0, 0)
	said(t, "Append", d.Append("a"), api.ErrPower)
	said(t, "Sync", d.Sync("a"), api.ErrPower)
	said(t, "Rename", d.Rename("a", "b"), api.ErrPower)
	said(t, "Remove", d.Remove("a"), api.ErrPower)
	reads(t, d, "a", api.ErrPower)
	lists(t, d, "")
	d.Arm(0)
	d.Crash(1, 2)
	stands(t, d, true, 0, 0)
	reads(t, d, "a", api.ErrNone)
	said(t, "Sync with power", d.Sync("a"), api.ErrNone)
	said(t, "Remove with power", d.Remove("a"), api.ErrNone)
	said(t, "Rename with power", d.Rename("a", "b"), api.ErrNone)
	said(t, "Append of a byte without room", d.Append("a", "x"), api.ErrFull)
	ok(t, d.Append("a"))
	d.Limit(1)
	ok(t, d.Append("b", "x"))
	lists(t, d, "", "a", "b")
	stands(t, d, true, 1, 2)
}

func TestAZeroDiskMayBeLimitedAhead(t *testing.T) {
	d := &files.Disk{}
	d.Limit(2)
	d.Crash()
	ok(t, d.Append("a", "xy"))
	said(t, "a byte more", d.Append("a", "z"), api.ErrFull)
}

func TestWithoutPowerNothingNamedIsNoError(t *testing.T) {
	for _, d := range []*files.Disk{without(t, "a"), {}} {
		ok(t, d.Sync(), d.Remove())
		said(t, "Append of nothing", d.Append("a"), api.ErrPower)
	}
}

// R3

func TestWhatIsHandedInStaysAndMayChange(t *testing.T) {
	d := files.New(100)
	parts, names, picks := []string{"one", "two"}, []string{"a", "b"}, []int{-3, 5}
	ok(t, d.Append("a", parts...), d.Append("b", parts...))
	parts[0] = "changed"
	holds(t, d, "a", "onetwo")
	ok(t, d.Sync(names...), d.Append("a", "loose"), d.Append("b", "loose"))
	d.Crash(picks...)
	if !slices.Equal(parts, []string{"changed", "two"}) || !slices.Equal(names, []string{"a", "b"}) || !slices.Equal(picks, []int{-3, 5}) {
		t.Errorf("handed in: %q, %q, %d", parts, names, picks)
	}
	holds(t, d, "a", "onetwolo")
	holds(t, d, "b", "onetwoloose")
	ok(t, d.Remove(names...))
	names[0] = "c"
	lists(t, d, "")
}

func TestWhatIsToldIsItsOwners(t *testing.T) {
	d := made(t, "a", "b", "c")
	l := d.List("")
	l[0], l[1] = "x", "y"
	lists(t, d, "", "a", "b", "c")
	l = d.List("b")
	l = append(l, "more")
	ok(t, d.Append("b2"))
	if !slices.Equal(l, []string{"b", "more"}) {
		t.Errorf("a list that was told has changed: %q", l)
	}
	ok(t, d.Append("a", "12345678"))
	before, _ := d.Read("a")
	d.Crash()
	ok(t, d.Append("a", "other bytes"), d.Remove("a"))
	if before != "a12345678" {
		t.Errorf("bytes that were told have changed: %q", before)
	}
}
