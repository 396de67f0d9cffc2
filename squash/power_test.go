package squash_test

import (
	"fmt"
	"math/rand"
	"slices"
	"testing"

	"murmuration/api"
	"murmuration/cask"
	"murmuration/files"
	"murmuration/squash"
)

// P5.4

// copied is a disk with the same files, all firm.
func copied(t *testing.T, d *files.Disk) *files.Disk {
	t.Helper()
	x := large()
	for _, name := range d.List("") {
		s, e := d.Read(name)
		ok(t, e, x.Append(name, s), x.Sync(name))
	}
	return x
}

// layouts are casks that a Squash has something to do with.
func layouts() []map[int]string {
	return []map[int]string{
		{1: put("a", "1") + put("a", "2")},
		{7: put("a", "1") + gone("a")},
		{1: put("a", "1"), 2: gone("a")},
		{1: put("a", "1"), 2: put("b", "2"), 3: put("a", "3") + gone("b")},
		{1: put("a", "1") + put("b", "1"), 2: gone("a"), 5: put("a", "2"), 9: gone("a") + put("c", "3") + gone("c")},
		{1: put("a", "1"), 2: gone("a") + put("b", "2"), 3: put("a", "1"), 4: gone("b"), 5: put("z", "")},
		{1: put("a", "1") + put("b", "2")[:5], 2: gone("a") + put("c", "3"), 3: put("d", "4") + gone("c")[:3]},
	}
}

func TestThePowerGoesAtEachStepOfASquash(t *testing.T) {
	for i, layout := range layouts() {
		first := laid(t, layout)
		want := opened(t, first, "v1").Fold()
		for k := 0; ; k++ {
			done := false
			for pick := range 40 {
				d := copied(t, first)
				c := opened(t, d, "v1")
				d.Arm(k)
				n, e := squash.Squash(c)
				if done = e == api.OK; !done && (n != 0 || e != api.ErrPower || d.On()) {
					t.Fatalf("layout %d, step %d: %d, %d", i, k, n, int(e))
				}
				d.Crash(pick, pick)
				stay(t, fmt.Sprintf("layout %d, step %d, pick %d", i, k, pick), d, want)
			}
			if done {
				// Append, Sync, Rename, the Sync of the opening; and all segments but the newest one.
				if k != 3+len(layout) {
					t.Errorf("layout %d: %d steps", i, k)
				}
				break
			}
		}
	}
}

// stay opens a cask anew, and squashes it: keys and values stay.
func stay(t *testing.T, what string, d *files.Disk, want []api.Pair) {
	t.Helper()
	c := opened(t, d, "v1")
	if got := c.Fold(); !slices.Equal(got, want) {
		t.Fatalf("%s: %q, want %q", what, got, want)
	}
	n, e := squash.Clean(d, "v1")
	if n > 1 || e != api.OK || len(d.List("v1.")) != len(c.Segments()) {
		t.Fatalf("%s: Clean: %d, %d, %q", what, n, int(e), d.List(""))
	}
	if _, e := squash.Squash(c); e != api.OK {
		t.Fatalf("%s: Squash: %d", what, int(e))
	}
	if got := opened(t, d, "v1").Fold(); !slices.Equal(got, want) || len(d.List("")) != 1 {
		t.Fatalf("%s, squashed: %q, %q, want %q", what, got, d.List(""), want)
	}
}

func TestWhatLiesThereBehindEachStep(t *testing.T) {
	old1, old2, old3 := put("a", "1")+put("b", "2"), put("a", "3"), gone("b")+put("c", "4")
	fresh := put("a", "3") + put("c", "4") + gone("b")
	before := []string{"v1.000001", old1, "v1.000002", old2, "v1.000003", old3}
	after := []string{"v1.000001", old1, "v1.000002", old2, "v1.000003", fresh}
	for k, want := range [][]string{
		slices.Concat(before, []string{"v1.000003.new", "x"}),
		slices.Concat(before, []string{"v1.000003.new", fresh[:9]}),
		slices.Concat(before, []string{"v1.000003.new", fresh[:9]}),
		slices.Concat(before, []string{"v1.000003.new", fresh}),
		after, after[2:], after[4:], after[4:],
	} {
		d := laid(t, map[int]string{1: old1, 2: old2, 3: old3})
		c := opened(t, d, "v1")
		ok(t, d.Append("v1.000003.new", "x"), d.Sync("v1.000003.new"))
		d.Arm(k)
		squash.Squash(c)
		d.Crash(9)
		var got []string
		for _, name := range d.List("") {
			s, _ := d.Read(name)
			got = append(got, name, s)
		}
		if !slices.Equal(got, want) {
			t.Errorf("step %d: %q, want %q", k, got, want)
		}
	}
}

func TestThePowerGoesWithLooseRecords(t *testing.T) {
	for k := 0; ; k++ {
		for pick := range 80 {
			d := large()
			c := opened(t, d, "v1")
			ok(t, c.Put("a", "1"), c.Put("b", "2"), c.Reopen(), c.Put("a", "3"), c.Delete("b"))
			d.Arm(k)
			_, e := squash.Squash(c)
			d.Crash(pick)
			got := opened(t, d, "v1").Fold()
			if k > 0 {
				if want := []api.Pair{{Key: "a", Value: "3"}}; !slices.Equal(got, want) {
					t.Fatalf("step %d, pick %d: %q, want %q", k, pick, got, want)
				}
			} else if got[0].Value != "1" && got[0].Value != "3" || len(got) == 1 && got[0].Value != "3" {
				t.Fatalf("pick %d: %q", pick, got)
			}
			if e == api.OK {
				if k != 6 {
					t.Errorf("%d steps", k)
				}
				return
			}
		}
	}
}

func TestASquashIsTakenUpAgainAndAgain(t *testing.T) {
	for i, layout := range layouts() {
		d := laid(t, layout)
		want := opened(t, d, "v1").Fold()
		for k := 0; ; k++ {
			c := opened(t, d, "v1")
			d.Arm(k)
			_, e := squash.Squash(c)
			d.Crash(k, k)
			if got := opened(t, d, "v1").Fold(); !slices.Equal(got, want) {
				t.Fatalf("layout %d, step %d: %q, want %q", i, k, got, want)
			}
			if e == api.OK {
				break
			}
		}
	}
}

func TestThePowerGoesAtEachStepOfANext(t *testing.T) {
	for _, lease := range []uint64{0, 100, 5000} {
		for _, older := range []string{"", "x", leased(lease + 100)} {
			for k := range 4 {
				steps := 3
				d := large()
				if lease > 0 {
					ok(t, d.Append("n.count", leased(lease)), d.Sync("n.count"))
				}
				if older != "" {
					ok(t, d.Append("n.count.new", older))
					steps++
				}
				for pick := range 9 {
					what := fmt.Sprintf("lease %d, step %d of %d, pick %d", lease, k, steps, pick)
					x := copied(t, d)
					n := counting(t, x, "n")
					x.Arm(k)
					if k >= steps {
						next(t, what, n, lease+1, api.OK)
						x.Crash(pick)
						next(t, what, counting(t, x, "n"), lease+101, api.OK)
						continue
					}
					next(t, what, n, 0, api.ErrPower)
					leases(t, what, n, lease)
					next(t, what, n, 0, api.ErrBroken)
					x.Crash(pick)
					next(t, what, n, 0, api.ErrBroken)
					// No step but the last one gives the file its name: no number was lost.
					n = counting(t, x, "n")
					leases(t, what, n, lease)
					next(t, what, n, lease+1, api.OK)
					lists(t, what, x, "n.count")
				}
			}
		}
	}
}

func TestNoNumberIsToldTwice(t *testing.T) {
	draw := rand.New(rand.NewSource(5))
	for range 200 {
		d := files.New(10 + draw.Intn(20))
		told := map[uint64]struct{}{}
		var counters []*squash.Counter
		last := map[*squash.Counter]uint64{}
		for range 400 {
			switch draw.Intn(12) {
			case 0:
				d.Crash(draw.Intn(20), draw.Intn(20))
			case 1:
				d.Arm(draw.Intn(6) - 1)
			case 2:
				d.Limit(10 + draw.Intn(20))
			case 3:
				if n, e := squash.NewCounter(d, "n"); e == api.OK {
					counters = append(counters, n)
				} else if e != api.ErrPower {
					t.Fatalf("NewCounter: %d", int(e))
				}
			default:
				if len(counters) == 0 {
					continue
				}
				n := counters[draw.Intn(len(counters))]
				for range draw.Intn(70) {
					number, e := n.Next()
					if e != api.OK {
						break
					}
					if _, twice := told[number]; twice || number <= last[n] || number > n.Leased() {
						t.Fatalf("%d behind %d, leased %d", number, last[n], n.Leased())
					}
					told[number], last[n] = struct{}{}, number
				}
			}
		}
	}
}

// plain is what a cask's keys have, told once more.
type plain map[string]string

func (p plain) same(t *testing.T, what string, c *cask.Cask) {
	t.Helper()
	if c.Len() != len(p) {
		t.Fatalf("%s: %d keys, want %d", what, c.Len(), len(p))
	}
	for _, pair := range c.Fold() {
		if value, there := p[pair.Key]; !there || value != pair.Value {
			t.Fatalf("%s: %q", what, pair)
		}
	}
}

// squashed is the squashed segment as the files say it, told once more.
func squashed(t *testing.T, d *files.Disk, c *cask.Cask) (string, int) {
	t.Helper()
	records, ahead := 0, map[string]int{}
	values := map[string]api.Change{}
	segments := c.Segments()
	for i, segment := range segments {
		s, e := d.Read(cask.File(c.Name(), segment))
		changes, _, _ := cask.Parse(s)
		ok(t, e)
		for _, change := range changes {
			records++
			values[change.Key] = change
			if i < len(segments)-1 {
				ahead[change.Key]++
			}
		}
	}
	var keys []string
	for key := range values {
		keys = append(keys, key)
	}
	slices.Sort(keys)
	alive, dead := "", ""
	for _, key := range keys {
		if change := values[key]; !change.Dead {
			alive += put(key, change.Value)
			records--
		} else if ahead[key] > 0 {
			dead += gone(key)
			records--
		}
	}
	return alive + dead, records
}

// checked squashes a cask, and holds what comes of it against the files ahead.
func checked(t *testing.T, what string, c *cask.Cask) {
	t.Helper()
	segments := c.Segments()
	if len(segments) == 0 || len(segments) == 1 && c.Dead() == 0 {
		squashes(t, what, c, 0, api.OK)
		return
	}
	newest := segments[len(segments)-1]
	want, fewer := squashed(t, c.Disk(), c)
	squashes(t, what, c, fewer, api.OK)
	holds(t, c.Disk(), cask.File("v1", newest), want)
	stands(t, c, goneIn(want), newest)
}

func TestDrawnCallsOnACaskThatIsSquashed(t *testing.T) {
	draw := rand.New(rand.NewSource(55))
	for round := range 60 {
		d := large()
		c := opened(t, d, "v1")
		p := plain{}
		for i := range 150 {
			what := fmt.Sprintf("round %d, call %d", round, i)
			key, value := fmt.Sprint("k", draw.Intn(12)), fmt.Sprintf("%*d", draw.Intn(900), i)
			switch draw.Intn(12) {
			case 0, 1, 2:
				if e := c.Delete(key); e == api.OK {
					delete(p, key)
				}
			case 3:
				ok(t, c.Reopen())
			case 4:
				checked(t, what, c)
			case 5:
				ok(t, c.Sync())
				d.Arm(draw.Intn(12))
				squash.Squash(c)
				d.Crash(draw.Intn(5000))
				c = opened(t, d, "v1")
			case 6:
				if _, e := squash.Clean(d, "v1"); e != api.OK {
					t.Fatalf("%s: Clean: %d", what, int(e))
				}
			default:
				ok(t, c.Put(key, value))
				p[key] = value
			}
			p.same(t, what, c)
			if want := c.Dead() > c.Len() && c.Dead() > 15; squash.Due(c) != want {
				t.Fatalf("%s: Due: %v", what, !want)
			}
		}
	}
}
