package squash_test

import (
	"fmt"
	"math"
	"strings"
	"testing"

	"murmuration/api"
	"murmuration/files"
	"murmuration/squash"
)

// P5.3

// filed is a disk with a counter's file of these bytes.
func filed(t *testing.T, bytes string) *files.Disk {
	t.Helper()
	d := large()
	ok(t, d.Append("n.count", bytes), d.Sync("n.count"))
	return d
}

// spend takes so many numbers, rising one by one.
func spend(t *testing.T, n *squash.Counter, from, to uint64) {
	t.Helper()
	for i := from; i <= to; i++ {
		next(t, "spent", n, i, api.OK)
	}
}

func TestNumbersOfANewCounter(t *testing.T) {
	d := large()
	n := counting(t, d, "n")
	lists(t, "opened", d)
	leases(t, "opened", n, 0)
	did(t, "the first one", d, 3, func() { next(t, "the first one", n, 1, api.OK) })
	lists(t, "the first one", d, "n.count")
	holds(t, d, "n.count", leased(100))
	leases(t, "the first one", n, 100)
	did(t, "up to the lease", d, 0, func() { spend(t, n, 2, 100) })
	leases(t, "up to the lease", n, 100)
	did(t, "above the lease", d, 3, func() { next(t, "above the lease", n, 101, api.OK) })
	holds(t, d, "n.count", leased(200))
	leases(t, "above the lease", n, 200)
	did(t, "up to a thousand", d, 24, func() { spend(t, n, 102, 1000) })
	holds(t, d, "n.count", leased(1000))
	lists(t, "up to a thousand", d, "n.count")
	if d.Used() != len(leased(1000)) {
		t.Errorf("%d bytes", d.Used())
	}
}

func TestTheBytesOfTheFile(t *testing.T) {
	d := large()
	next(t, "new", counting(t, d, "n"), 1, api.OK)
	// One byte of body, a hundred, and its check.
	holds(t, d, "n.count", "\x01\x64\x98\xdd\x4a\xcc")
}

func TestACounterOfAFile(t *testing.T) {
	for _, lease := range []uint64{0, 1, 7, 99, 100, 101, 127, 128, 16383, 16384, 1 << 32, 1 << 63, math.MaxUint64 - 101, math.MaxUint64 - 100} {
		d := filed(t, leased(lease))
		var n *squash.Counter
		did(t, "opened", d, 0, func() { n = counting(t, d, "n") })
		leases(t, "opened", n, lease)
		holds(t, d, "n.count", leased(lease))
		did(t, "Next", d, 3, func() { next(t, fmt.Sprint("behind ", lease), n, lease+1, api.OK) })
		leases(t, "Next", n, lease+100)
		holds(t, d, "n.count", leased(lease+100))
		next(t, fmt.Sprint("behind ", lease), n, lease+2, api.OK)
		leases(t, "opened again", counting(t, d, "n"), lease+100)
	}
}

func TestACounterOpenedAnew(t *testing.T) {
	d := large()
	for i := range uint64(20) {
		n := counting(t, d, "n")
		leases(t, "opened", n, 100*i)
		spend(t, n, 100*i+1, 100*i+i%7+1)
		if i%3 == 0 {
			d.Crash(int(i))
		}
	}
	// One that was opened and told nothing has used up nothing.
	for range 5 {
		leases(t, "opened alone", counting(t, d, "n"), 2000)
	}
	next(t, "at last", counting(t, d, "n"), 2001, api.OK)
}

func TestCountersDoNotMeddle(t *testing.T) {
	d := large()
	a, b := counting(t, d, "a"), counting(t, d, "a-")
	spend(t, a, 1, 150)
	spend(t, b, 1, 50)
	spend(t, a, 151, 250)
	spend(t, b, 51, 150)
	lists(t, "two", d, "a-.count", "a.count")
	leases(t, "a", a, 300)
	leases(t, "b", b, 200)

	other := large()
	next(t, "another disk", counting(t, other, "a"), 1, api.OK)
	spend(t, a, 251, 252)
}

func TestACounterBesideItsCask(t *testing.T) {
	d := large()
	c, n := opened(t, d, "v1"), counting(t, d, "v1")
	ok(t, c.Put("a", "1"), c.Put("a", "2"), c.Sync())
	spend(t, n, 1, 101)
	squashes(t, "beside a counter", c, 1, api.OK)
	cleans(t, "beside a counter", d, "v1", 0, api.OK)
	lists(t, "both", d, "v1.000001", "v1.count")
	has(t, opened(t, d, "v1"), "a", "2")
	next(t, "both", counting(t, d, "v1"), 201, api.OK)
	next(t, "both", n, 102, api.OK)
}

func TestNewCounterOfWhatMayNotBe(t *testing.T) {
	d := filed(t, "broken")
	for _, name := range badNames() {
		uncounted(t, fmt.Sprintf("%.20q", name), d, name, api.ErrArg)
	}
	without(t, d)
	for _, name := range badNames() {
		uncounted(t, fmt.Sprintf("%.20q, without power", name), d, name, api.ErrArg)
	}
	uncounted(t, "broken, without power", d, "n", api.ErrPower)
	uncounted(t, "no file, without power", d, "m", api.ErrPower)
	d.Crash()
	uncounted(t, "broken", d, "n", api.ErrBroken)
	leases(t, "no file", counting(t, d, "m"), 0)
}

func TestNamesThatCountersMayHave(t *testing.T) {
	d := large()
	for _, name := range []string{"n", "0", "-", "p7", "ask", strings.Repeat("n", 20), "az09-"} {
		ok(t, d.Append(name+".count.new", "old"))
		next(t, name, counting(t, d, name), 1, api.OK)
		next(t, name, counting(t, d, name), 101, api.OK)
		holds(t, d, name+".count", leased(200))
	}
}

func TestFilesThatAreNoCounters(t *testing.T) {
	whole := leased(100)
	bad := map[string]string{
		"empty": "", "a byte behind": whole + "x", "a zero behind": whole + "\x00", "two": whole + whole, "a byte ahead": "x" + whole,
		"no body": framed(""), "two numbers": framed("\x64\x64"), "a number and a byte": framed("\x64\x00"), "a number that ends early": framed("\x80"),
		"a number that is too long": framed("\x80\x00"), "a number beyond 64 bits": framed(strings.Repeat("\xff", 9) + "\x02"), "eleven bytes": framed(strings.Repeat("\x80", 10) + "\x01"),
		"a text": framed("hello"), "the body alone": "\x64", "a cask's record": put("a", "1"), "no frame": "counter", "too great a frame": "\xff\xff\xff\xff\x0f", "a long one": strings.Repeat("x", 1<<20),
	}
	for i := range len(whole) {
		bad[fmt.Sprint("cut to ", i)] = whole[:i]
		turned := []byte(whole)
		turned[i] ^= 0x10
		bad[fmt.Sprint("turned at ", i)] = string(turned)
	}
	for what, bytes := range bad {
		d := filed(t, bytes)
		was := onDisk(d)
		did(t, what, d, 0, func() { uncounted(t, what, d, "n", api.ErrBroken) })
		if onDisk(d) != was {
			t.Errorf("%s: %s, want %s", what, onDisk(d), was)
		}
	}
}

func TestWhatLiesOnItsWayIsPassedOver(t *testing.T) {
	for _, bytes := range []string{"", "x", leased(5000), leased(200), leased(200)[:3]} {
		d := filed(t, leased(100))
		ok(t, d.Append("n.count.new", bytes))
		n := counting(t, d, "n")
		leases(t, "opened", n, 100)
		lists(t, "opened", d, "n.count", "n.count.new")
		// One step more: it is removed first.
		did(t, "Next", d, 4, func() { next(t, "Next", n, 101, api.OK) })
		lists(t, "Next", d, "n.count")
		holds(t, d, "n.count", leased(200))
	}
}

func TestACounterWithoutRoom(t *testing.T) {
	size := len(leased(100))
	d := files.New(size - 1)
	n := counting(t, d, "n")
	for range 3 {
		did(t, "no room", d, 0, func() { next(t, "no room", n, 0, api.ErrFull) })
	}
	leases(t, "no room", n, 0)
	lists(t, "no room", d)
	d.Limit(size)
	spend(t, n, 1, 100)

	// The old one lies there while the next one is written.
	d.Limit(size + len(leased(200)) - 1)
	for range 3 {
		next(t, "no room for two", n, 0, api.ErrFull)
	}
	leases(t, "no room for two", n, 100)
	holds(t, d, "n.count", leased(100))
	d.Limit(size + len(leased(200)))
	spend(t, n, 101, 200)
	holds(t, d, "n.count", leased(200))
}

func TestAnOlderLeaseMakesRoom(t *testing.T) {
	d := filed(t, leased(200))
	ok(t, d.Append("n.count.new", leased(300)))
	d.Limit(d.Used())
	next(t, "room of the older one", counting(t, d, "n"), 201, api.OK)

	d = filed(t, leased(200))
	ok(t, d.Append("n.count.new", "x"))
	d.Limit(d.Used())
	n := counting(t, d, "n")
	next(t, "no room", n, 0, api.ErrFull)
	lists(t, "no room", d, "n.count")
	d.Limit(100)
	next(t, "room again", n, 201, api.OK)
}

func TestACounterWithAllFilesThere(t *testing.T) {
	d := large()
	for i := range api.MaxFiles {
		ok(t, d.Append(fmt.Sprint("other-", i)))
	}
	n := counting(t, d, "n")
	next(t, "no file more", n, 0, api.ErrFull)
	ok(t, d.Remove("other-0"))
	spend(t, n, 1, 100)
	next(t, "no file more, again", n, 0, api.ErrFull)
	ok(t, d.Remove("other-1"))
	spend(t, n, 101, 200)
}

func TestACounterWithoutPower(t *testing.T) {
	d := large()
	n := counting(t, d, "n")
	spend(t, n, 1, 40)
	without(t, d)
	// The lease is there already: no disk is asked.
	spend(t, n, 41, 100)
	next(t, "above the lease", n, 0, api.ErrPower)
	for range 3 {
		next(t, "broken", n, 0, api.ErrBroken)
	}
	leases(t, "broken", n, 100)
	d.Crash()
	for range 3 {
		did(t, "broken", d, 0, func() { next(t, "broken, with power", n, 0, api.ErrBroken) })
	}
	next(t, "opened anew", counting(t, d, "n"), 101, api.OK)
}

func TestNumbersComeToAnEnd(t *testing.T) {
	for _, left := range []uint64{0, 1, 50, 99} {
		lease := math.MaxUint64 - left
		d := filed(t, leased(lease))
		n := counting(t, d, "n")
		for range 3 {
			did(t, "at the end", d, 0, func() { next(t, fmt.Sprint(left, " left"), n, 0, api.ErrFull) })
			leases(t, "at the end", n, lease)
		}
	}
	d := filed(t, leased(math.MaxUint64-100))
	n := counting(t, d, "n")
	for i := range uint64(100) {
		next(t, "the last ones", n, math.MaxUint64-99+i, api.OK)
	}
	next(t, "none left", n, 0, api.ErrFull)
	leases(t, "none left", n, math.MaxUint64)
	holds(t, d, "n.count", leased(math.MaxUint64))
}

func TestSomebodyElseOpensItToo(t *testing.T) {
	d := large()
	a, b := counting(t, d, "n"), counting(t, d, "n")
	spend(t, a, 1, 60)
	// Both were opened without a file: b sees a's lease, as it needs one of its own.
	spend(t, b, 101, 150)
	holds(t, d, "n.count", leased(200))
	spend(t, a, 61, 100)
	spend(t, a, 201, 300)
	leases(t, "a", a, 300)
	spend(t, b, 151, 200)
	spend(t, b, 301, 301)
	next(t, "a third one", counting(t, d, "n"), 401, api.OK)
	spend(t, a, 501, 502)
	spend(t, b, 302, 303)
}

func TestTheFileIsTakenOrSpoiled(t *testing.T) {
	for what, spoil := range map[string]func(d *files.Disk) api.Errno{
		"taken":         func(d *files.Disk) api.Errno { return d.Remove("n.count") },
		"spoiled":       func(d *files.Disk) api.Errno { return d.Append("n.count", "x") },
		"an older one":  func(d *files.Disk) api.Errno { return d.Rename("old", "n.count") },
		"not a counter": func(d *files.Disk) api.Errno { return d.Rename("text", "n.count") },
	} {
		d := large()
		ok(t, d.Append("old", leased(100)), d.Append("text", "hello"))
		n := counting(t, d, "n")
		spend(t, n, 1, 200)
		ok(t, spoil(d))
		// It goes on by what it knows itself, and the file is right again.
		spend(t, n, 201, 300)
		holds(t, d, "n.count", leased(300))
		next(t, what, counting(t, d, "n"), 301, api.OK)
	}
}
