package files_test

import (
	"fmt"
	"math"
	"strings"
	"testing"

	"murmuration/api"
	"murmuration/files"
)

// P3.4

func TestThePowerGoesInTheStepBehindSoMany(t *testing.T) {
	for ahead := range 20 {
		d := files.New(100)
		d.Arm(ahead)
		for i := range ahead {
			ok(t, d.Append("a", "x"))
			stands(t, d, true, i+1, i+1)
		}
		said(t, "the step behind them", d.Append("a", "x"), api.ErrPower)
		stands(t, d, false, ahead+1, ahead+1)
		said(t, "one more", d.Append("a", "x"), api.ErrPower)
		stands(t, d, false, ahead+1, ahead+1)
		d.Crash(ahead + 1)
		for range ahead + 3 {
			ok(t, d.Append("a", "x"))
		}
		stands(t, d, true, 2*ahead+4, 2*ahead+4)
	}
}

func TestArmedBelowNoneItDoesNotGo(t *testing.T) {
	for _, steps := range []int{-1, -2, -1000, math.MinInt} {
		d := files.New(100)
		d.Arm(steps)
		for range 50 {
			ok(t, d.Append("a", "x"))
		}
		d.Arm(3)
		d.Arm(steps)
		for range 50 {
			ok(t, d.Append("a", "x"))
		}
		stands(t, d, true, 100, 100)
	}
	d := files.New(100)
	d.Arm(math.MaxInt)
	for range 100 {
		ok(t, d.Append("a", "x"))
	}
}

func TestArmedAgainTheLastOneCounts(t *testing.T) {
	d := files.New(100)
	d.Arm(0)
	d.Arm(2)
	ok(t, d.Append("a", "x"))
	d.Arm(1)
	ok(t, d.Append("a", "x"))
	said(t, "the step behind one", d.Append("a", "x"), api.ErrPower)
	d.Crash()
	d.Arm(5)
	d.Arm(0)
	said(t, "the next step", d.Append("a", "x"), api.ErrPower)
}

func TestArmedWithoutPowerItIsNotBehindACrash(t *testing.T) {
	d := without(t, "a")
	d.Arm(0)
	said(t, "Append", d.Append("a", "x"), api.ErrPower)
	d.Crash()
	ok(t, d.Append("a", "x"), d.Sync("a"))
	d.Arm(0)
	d.Crash()
	ok(t, d.Append("a", "y"), d.Sync("a"))
	holds(t, d, "a", "xy")
}

func TestCallsWithErrorsAreNoSteps(t *testing.T) {
	d := files.New(1)
	ok(t, d.Append("a", "x"))
	d.Arm(0)
	said(t, "Append that doesn't fit", d.Append("a", "y"), api.ErrFull)
	said(t, "Append of a wrong name", d.Append("A"), api.ErrFile)
	said(t, "Sync of none", d.Sync("b"), api.ErrNone)
	said(t, "Sync of a wrong name", d.Sync("B"), api.ErrFile)
	said(t, "Rename of none", d.Rename("b", "a"), api.ErrNone)
	said(t, "Rename to a wrong name", d.Rename("a", "B"), api.ErrFile)
	said(t, "Remove of none", d.Remove("b"), api.ErrNone)
	said(t, "Remove of a wrong name", d.Remove("B"), api.ErrFile)
	ok(t, d.Sync(), d.Remove())
	d.Limit(9)
	stands(t, d, true, 1, 1)
	said(t, "a step", d.Append("a", "y"), api.ErrPower)
	stands(t, d, false, 2, 2)
}

func TestThePowerGoesInAnAppend(t *testing.T) {
	d := made(t, "a")
	ok(t, d.Sync("a"))
	d.Arm(0)
	said(t, "Append", d.Append("a", "one", "", "two"), api.ErrPower)
	stands(t, d, false, 7, 3)
	d.Crash(4)
	holds(t, d, "a", "aonet")
	d.Arm(0)
	said(t, "Append to a new file", d.Append("b", "xyz"), api.ErrPower)
	lists(t, d, "")
	stands(t, d, false, 8, 4)
	d.Crash(3)
	lists(t, d, "", "a", "b")
	holds(t, d, "b", "xyz")
	d.Arm(0)
	said(t, "Append of nothing to a new file", d.Append("c"), api.ErrPower)
	d.Crash()
	holds(t, d, "c", "")
}

func TestThePowerGoesInASync(t *testing.T) {
	for ahead := range 4 {
		d := made(t, "a", "b", "c")
		d.Arm(ahead)
		want := api.ErrPower
		if ahead == 3 {
			want = api.OK
		}
		said(t, "Sync", d.Sync("c", "a", "b"), want)
		stands(t, d, ahead == 3, 3, min(6, 3+ahead+1))
		d.Crash()
		for i, name := range []string{"c", "a", "b"} {
			holds(t, d, name, name[:min(1, max(0, ahead-i))])
		}
	}
}

func TestThePowerGoesInARename(t *testing.T) {
	for _, to := range []string{"a", "b", "c"} {
		d := made(t, "a", "b")
		ok(t, d.Sync("a", "b"))
		d.Arm(0)
		said(t, "Rename", d.Rename("a", to), api.ErrPower)
		stands(t, d, false, 2, 5)
		d.Crash()
		lists(t, d, "", "a", "b")
		holds(t, d, "a", "a")
		holds(t, d, "b", "b")
	}
}

func TestThePowerGoesInARemove(t *testing.T) {
	for ahead := range 3 {
		d := made(t, "a", "b", "c")
		ok(t, d.Sync("a", "b", "c"))
		d.Arm(ahead)
		said(t, "Remove", d.Remove("b", "a", "c"), api.ErrPower)
		stands(t, d, false, 3-ahead, 7+ahead)
		d.Crash()
		lists(t, d, "", [][]string{{"a", "b", "c"}, {"a", "c"}, {"c"}}[ahead]...)
		stands(t, d, true, 3-ahead, 7+ahead)
	}
}

func TestAStepOfEachKindCounts(t *testing.T) {
	for i, step := range []func(*files.Disk) api.Errno{
		func(d *files.Disk) api.Errno { return d.Append("a", "x") },
		func(d *files.Disk) api.Errno { return d.Append("new") },
		func(d *files.Disk) api.Errno { return d.Sync("a") },
		func(d *files.Disk) api.Errno { return d.Rename("a", "a") },
		func(d *files.Disk) api.Errno { return d.Remove("b") },
	} {
		d := made(t, "a", "b")
		d.Arm(1)
		said(t, fmt.Sprint("step ", i), step(d), api.OK)
		if d.Steps() != 3 {
			t.Errorf("step %d: Steps %d, want 3", i, d.Steps())
		}
		said(t, fmt.Sprint("a step behind step ", i), d.Append("a"), api.ErrPower)
	}
}

// crashed is what is left of a file with 2 firm bytes and 4 that are not.
func crashed(t *testing.T, power bool, picks ...int) string {
	t.Helper()
	d := files.New(100)
	ok(t, d.Append("a", "12"), d.Sync("a"), d.Append("a", "345"))
	if power {
		ok(t, d.Append("a", "6"))
	} else {
		d.Arm(0)
		said(t, "Append", d.Append("a", "6"), api.ErrPower)
	}
	d.Crash(picks...)
	stands(t, d, true, d.Used(), 4)
	s, e := d.Read("a")
	said(t, "Read", e, api.OK)
	return s
}

func TestAPickSaysHowManyStay(t *testing.T) {
	for pick, want := range map[int]int{
		0: 0, 1: 1, 2: 2, 3: 3, 4: 4, 5: 0, 6: 1, 9: 4, 10: 0, 1003: 3,
		-1: 0, -2: 1, -5: 4, -6: 0, -7: 1, -1004: 3,
		math.MaxInt: math.MaxInt % 5, math.MinInt: math.MaxInt % 5, math.MinInt + 1: (math.MaxInt - 1) % 5,
	} {
		for _, power := range []bool{true, false} {
			if got := crashed(t, power, pick); got != "123456"[:2+want] {
				t.Errorf("Crash(%d): %s, want %s", pick, got, "123456"[:2+want])
			}
			if got := crashed(t, power, pick, 4, 4); got != "123456"[:2+want] {
				t.Errorf("Crash(%d) with too many picks: %s, want %s", pick, got, "123456"[:2+want])
			}
		}
	}
	for _, power := range []bool{true, false} {
		if got := crashed(t, power); got != "12" {
			t.Errorf("Crash without a pick: %s, want 12", got)
		}
	}
}

func TestPicksGoByRisingNames(t *testing.T) {
	names := []string{"f.2", "e", "f.10", "a", "0", "f-1", "d", "b"}
	bytes := "12345"
	d := files.New(1000)
	for _, name := range names {
		ok(t, d.Append(name, bytes))
	}
	// Neither a file that is firm nor an empty one takes a pick.
	ok(t, d.Sync("b", "e"), d.Append("e", "+"), d.Append("c"), d.Append("d2", ""))
	d.Crash(1, 2, 3, 1, 4, 5)
	for name, want := range map[string]string{
		"0": "1", "a": "12", "b": bytes, "c": "", "d": "123", "d2": "", "e": bytes + "+", "f-1": "1234", "f.10": "12345", "f.2": "",
	} {
		holds(t, d, name, want)
	}
	stands(t, d, true, 26, 13)
}

func TestBehindACrashAllIsFirm(t *testing.T) {
	d := files.New(100)
	ok(t, d.Append("a", "12345"), d.Append("b", "12345"))
	d.Crash(3, 5)
	d.Crash()
	holds(t, d, "a", "123")
	holds(t, d, "b", "12345")
	d.Crash(0, 0)
	ok(t, d.Append("a", "xyz"))
	d.Crash(1)
	d.Crash(0)
	holds(t, d, "a", "123x")
	stands(t, d, true, 9, 3)
	ok(t, d.Append("b", "6"))
	d.Crash(-1)
	holds(t, d, "b", "12345")
}

func TestACrashWithPowerDisarms(t *testing.T) {
	d := made(t, "a")
	d.Arm(1)
	d.Crash(1)
	ok(t, d.Append("a", "x"), d.Append("a", "y"), d.Append("a", "z"))
	holds(t, d, "a", "axyz")
}

func TestWithoutPowerNothingChanges(t *testing.T) {
	d := without(t, "a", "b")
	for range 3 {
		said(t, "Append", d.Append("a", "x"), api.ErrPower)
		said(t, "Append to a new file", d.Append("c", "x"), api.ErrPower)
		said(t, "Sync", d.Sync("a"), api.ErrPower)
		said(t, "Rename", d.Rename("a", "b"), api.ErrPower)
		said(t, "Remove", d.Remove("a"), api.ErrPower)
		reads(t, d, "a", api.ErrPower)
		lists(t, d, "")
		stands(t, d, false, 2, 3)
	}
	d.Crash(0, 1)
	lists(t, d, "", "a", "b", "z")
	holds(t, d, "a", "")
	holds(t, d, "b", "b")
}

// P3.5

// script appends and syncs by turns, and says what was synced with OK and what was handed to Append in all.
func script(d *files.Disk, names ...string) (synced, appended map[string]string) {
	synced, appended = map[string]string{}, map[string]string{}
	for i := range 12 {
		name := names[i%len(names)]
		part := fmt.Sprint(i, ",", strings.Repeat("x", i%4))
		appended[name] += part
		if d.Append(name, part[:1], part[1:]) != api.OK {
			return synced, appended
		}
		if i%3 == 2 {
			if d.Sync(name) != api.OK {
				return synced, appended
			}
			synced[name] = appended[name]
		}
	}
	return synced, appended
}

func TestWhatWasSyncedIsThereBehindAnyCrash(t *testing.T) {
	for ahead := range 17 {
		for pick := range 40 {
			d := files.New(1000)
			d.Arm(ahead)
			synced, appended := script(d, "a", "b")
			if d.On() != (ahead == 16) {
				t.Fatalf("armed with %d: On is %v", ahead, d.On())
			}
			d.Crash(pick, 3*pick+1)
			d.Crash(-pick, pick)
			for _, name := range d.List("") {
				s, e := d.Read(name)
				if e != api.OK || !strings.HasPrefix(s, synced[name]) || !strings.HasPrefix(appended[name], s) {
					t.Errorf("armed with %d, pick %d: %s has %q (%d), of %q, of which %q was synced", ahead, pick, name, s, int(e), appended[name], synced[name])
				}
			}
			if len(synced) > len(d.List("")) {
				t.Errorf("armed with %d, pick %d: a file that was synced is gone", ahead, pick)
			}
		}
	}
}

func TestARenamedFileIsTheOldOneOrTheNewOne(t *testing.T) {
	old, anew := "the old bytes", "other, newer bytes"
	for ahead := range 6 {
		for pick := range 40 {
			d := files.New(1000)
			ok(t, d.Append("f", old), d.Sync("f"))
			d.Arm(ahead)
			done := d.Append("f.new", anew[:7]) == api.OK && d.Append("f.new", anew[7:]) == api.OK && d.Sync("f.new") == api.OK && d.Rename("f.new", "f") == api.OK
			d.Crash(pick)
			want := old
			if done {
				want = anew
			}
			if done != (ahead >= 4) {
				t.Errorf("armed with %d: done is %v", ahead, done)
			}
			holds(t, d, "f", want)
		}
	}
}

func TestSoMuchAsEverItIs(t *testing.T) {
	d := files.New(api.MaxRoom)
	block := strings.Repeat("0123456789abcdef", 1<<16)
	for range 8 {
		ok(t, d.Append("a", block))
	}
	ok(t, d.Sync("a"))
	for range 8 {
		ok(t, d.Append("a", block))
	}
	stands(t, d, true, api.MaxRoom, 17)
	d.Crash(1<<22 + 5)
	stands(t, d, true, 1<<23+1<<22+5, 17)
	holds(t, d, "a", strings.Repeat(block, 12)+"01234")
}
