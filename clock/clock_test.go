package clock_test

import (
	"math"
	"slices"
	"strconv"
	"strings"
	"testing"

	"murmuration/api"
	"murmuration/clock"
)

const most = math.MaxUint64

func number(s string) uint64 {
	if s == "most" {
		return most
	}
	n, err := strconv.ParseUint(s, 10, 64)
	if err != nil {
		panic(err)
	}
	return n
}

// at is a clock as the chapter writes it, actor:N, right or not; "most" is the greatest number.
func at(s string) api.Clock {
	var c api.Clock
	for _, word := range strings.Fields(s) {
		actor, n, _ := strings.Cut(word, ":")
		c = append(c, api.Dot{Actor: number(actor), N: number(n)})
	}
	return c
}

func dot(s string) api.Dot { return at(s)[0] }

func clocks(l ...string) []api.Clock {
	var all []api.Clock
	for _, s := range l {
		all = append(all, at(s))
	}
	return all
}

// is says what clock must be told, as a clock that is right is written.
func is(t *testing.T, what string, got api.Clock, want string) {
	t.Helper()
	if !slices.Equal(got, at(want)) {
		t.Errorf("%s: %v, want %s", what, got, want)
	}
}

// wrong are clocks that are not right, and what they are taken as.
var wrong = map[string]string{
	"5:1 1:2":                 "1:2 5:1",
	"3:1 2:1 1:1 0:1":         "0:1 1:1 2:1 3:1",
	"1:2 1:3":                 "1:3",
	"1:3 1:2":                 "1:3",
	"1:2 1:2":                 "1:2",
	"1:1 1:3 1:2":             "1:3",
	"1:1 2:9 1:3 2:4 1:2":     "1:3 2:9",
	"1:0":                     "",
	"0:0":                     "",
	"most:0":                  "",
	"1:0 2:1":                 "2:1",
	"2:1 3:0":                 "2:1",
	"1:0 1:1 1:0":             "1:1",
	"1:1 1:0":                 "1:1",
	"0:0 0:0 1:0":             "",
	"7:1 2:0 1:5 7:3":         "1:5 7:3",
	"most:most 0:most most:1": "0:most most:most",
	"most:1 most:most":        "most:most",
	"9223372036854775808:1 9223372036854775807:1": "9223372036854775807:1 9223372036854775808:1",
	"1:9223372036854775807 1:9223372036854775808": "1:9223372036854775808",
	"4294967296:1 1:1 4294967297:1":               "1:1 4294967296:1 4294967297:1",
}

var right = []string{
	"", "1:1", "0:1", "1:2 5:1", "0:most", "most:1", "most:most", "1:1 2:1 3:1",
	"0:1 1:most 9223372036854775807:3 9223372036854775808:4 most:5",
}

// P6.1

func TestNorm(t *testing.T) {
	for _, s := range right {
		is(t, "Norm of "+s, clock.Norm(at(s)), s)
	}
	for s, want := range wrong {
		is(t, "Norm of "+s, clock.Norm(at(s)), want)
	}
	is(t, "Norm of nil", clock.Norm(nil), "")
	is(t, "Norm of none", clock.Norm(api.Clock{}), "")
}

func TestNormOfManyDots(t *testing.T) {
	var c, want api.Clock
	for i := range 5000 {
		actor := uint64(i*7919%1000) << 40
		c = append(c, api.Dot{Actor: actor, N: uint64(i*31%4999) * 2})
	}
	for actor := range uint64(1000) {
		n := uint64(0)
		for _, d := range c {
			if d.Actor == actor<<40 {
				n = max(n, d.N)
			}
		}
		want = append(want, api.Dot{Actor: actor << 40, N: n})
	}
	if !slices.Equal(clock.Norm(c), want) {
		t.Error("Norm of many dots is another one")
	}
}

func TestGet(t *testing.T) {
	for _, x := range []struct {
		c, actor string
		want     uint64
	}{
		{"", "0", 0},
		{"", "1", 0},
		{"1:2 5:1", "1", 2},
		{"1:2 5:1", "5", 1},
		{"1:2 5:1", "0", 0},
		{"1:2 5:1", "3", 0},
		{"1:2 5:1", "6", 0},
		{"0:most", "0", most},
		{"most:1", "most", 1},
		{"most:most", "most", most},
		{"most:most", "9223372036854775807", 0},
		{"5:1 1:2", "1", 2},
		{"1:2 1:3", "1", 3},
		{"1:3 1:2", "1", 3},
		{"1:3 1:0", "1", 3},
		{"1:0", "1", 0},
		{"4294967297:4", "1", 0},
	} {
		if got := clock.Get(at(x.c), number(x.actor)); got != x.want {
			t.Errorf("Get(%s, %s): %d, want %d", x.c, x.actor, got, x.want)
		}
	}
}

func TestCovers(t *testing.T) {
	for _, x := range []struct {
		c, d string
		want bool
	}{
		{"1:2", "1:2", true},
		{"1:2", "1:3", false},
		{"1:2", "1:0", false},
		{"1:2", "1:1", true},
		{"1:2", "2:1", false},
		{"1:2", "2:0", false},
		{"1:2", "0:1", false},
		{"", "1:1", false},
		{"", "1:0", false},
		{"", "0:0", false},
		{"1:0", "1:0", false},
		{"1:0", "1:1", false},
		{"1:2 5:1", "5:1", true},
		{"1:2 5:1", "5:2", false},
		{"5:1 1:2", "1:2", true},
		{"1:1 1:3", "1:3", true},
		{"1:3 1:1", "1:3", true},
		{"1:3 1:1", "1:4", false},
		{"0:most", "0:most", true},
		{"0:9223372036854775807", "0:9223372036854775808", false},
		{"most:most", "most:1", true},
		{"most:most", "most:0", false},
		{"most:1", "most:most", false},
	} {
		if got := clock.Covers(at(x.c), dot(x.d)); got != x.want {
			t.Errorf("Covers(%s, %s): %v", x.c, x.d, got)
		}
	}
}

func TestCompare(t *testing.T) {
	for _, x := range []struct {
		a, b       string
		want, back int
	}{
		{"1:1", "1:2", -1, 1},
		{"1:1", "2:1", 2, 2},
		{"1:1", "1:1 2:0", 0, 0},
		{"", "", 0, 0},
		{"", "3:0", 0, 0},
		{"", "1:1", -1, 1},
		{"1:2 5:1", "1:2 5:1", 0, 0},
		{"1:2 5:1", "5:1 1:2", 0, 0},
		{"1:2 5:1", "5:1 1:1 1:2", 0, 0},
		{"1:2", "1:2 5:1", -1, 1},
		{"5:1", "1:2 5:1", -1, 1},
		{"1:2 5:1", "1:3 5:1", -1, 1},
		{"1:2 5:1", "1:3 5:2", -1, 1},
		{"1:2 5:1", "1:1 5:2", 2, 2},
		{"1:2 5:1", "1:3", 2, 2},
		{"1:2 5:1", "1:2 6:1", 2, 2},
		{"1:3 1:1", "1:2", 1, -1},
		{"1:1 1:3", "1:2", 1, -1},
		{"1:1 1:2 2:0", "1:3", -1, 1},
		{"0:most", "0:most", 0, 0},
		{"0:most", "0:1", 1, -1},
		{"0:9223372036854775807", "0:9223372036854775808", -1, 1},
		{"most:most", "0:1", 2, 2},
		{"most:most", "0:1 most:most", -1, 1},
	} {
		compares(t, x.a, x.b, x.want)
		compares(t, x.b, x.a, x.back)
	}
}

func compares(t *testing.T, a, b string, want int) {
	t.Helper()
	if got := clock.Compare(at(a), at(b)); got != want {
		t.Errorf("Compare(%s, %s): %d, want %d", a, b, got, want)
	}
	if got := clock.Same(at(a), at(b)); got != (want == 0) {
		t.Errorf("Same(%s, %s): %v", a, b, got)
	}
}

func TestCompareTakesTheNorm(t *testing.T) {
	for s, norm := range wrong {
		compares(t, s, norm, 0)
		compares(t, norm, s, 0)
		compares(t, s, s, 0)
	}
}

// P6.2

func TestMerge(t *testing.T) {
	for _, x := range []struct {
		l    []string
		want string
	}{
		{nil, ""},
		{[]string{""}, ""},
		{[]string{"", "", ""}, ""},
		{[]string{"1:2 5:1"}, "1:2 5:1"},
		{[]string{"1:2 5:1", "1:1 7:3"}, "1:2 5:1 7:3"},
		{[]string{"1:1 7:3", "1:2 5:1"}, "1:2 5:1 7:3"},
		{[]string{"1:2 5:1", "", "1:2 5:1"}, "1:2 5:1"},
		{[]string{"3:1", "2:1", "1:1"}, "1:1 2:1 3:1"},
		{[]string{"1:1", "1:3", "1:2"}, "1:3"},
		{[]string{"1:0", "2:0"}, ""},
		{[]string{"1:0", "1:4", "1:0"}, "1:4"},
		{[]string{"5:1 1:2 1:7", "7:0 5:2"}, "1:7 5:2"},
		{[]string{"most:1 0:1", "most:most 0:most"}, "0:most most:most"},
		{[]string{"0:9223372036854775807", "0:9223372036854775808"}, "0:9223372036854775808"},
	} {
		is(t, "Merge("+strings.Join(x.l, ", ")+")", clock.Merge(clocks(x.l...)...), x.want)
	}
	is(t, "Merge of nil clocks", clock.Merge(nil, nil), "")
	is(t, "Merge without any", clock.Merge(), "")
}

func TestMergeOfManyClocks(t *testing.T) {
	var l []api.Clock
	for i := range uint64(300) {
		l = append(l, api.Clock{{Actor: i % 3, N: i + 1}, {Actor: 1000 - i, N: 1}})
	}
	got := clock.Merge(l...)
	is(t, "Merge of many, its beginning", got[:3], "0:298 1:299 2:300")
	if len(got) != 303 {
		t.Errorf("Merge of many: %d dots", len(got))
	}
	for i, d := range got[3:] {
		if want := (api.Dot{Actor: 701 + uint64(i), N: 1}); d != want {
			t.Errorf("Merge of many: %v, want %v", d, want)
		}
	}
}

func TestAdd(t *testing.T) {
	for _, x := range []struct{ c, l, want string }{
		{"", "", ""},
		{"1:2", "", "1:2"},
		{"", "1:2", "1:2"},
		{"1:2 5:1", "1:3", "1:3 5:1"},
		{"1:2 5:1", "1:1", "1:2 5:1"},
		{"1:2 5:1", "1:9", "1:9 5:1"},
		{"1:2 5:1", "3:1", "1:2 3:1 5:1"},
		{"1:2 5:1", "0:1 9:1 3:1", "0:1 1:2 3:1 5:1 9:1"},
		{"1:2 5:1", "1:4 1:7 1:5", "1:7 5:1"},
		{"1:2 5:1", "5:0 6:0", "1:2 5:1"},
		{"5:1 1:2 1:3 2:0", "2:1", "1:3 2:1 5:1"},
		{"5:1 1:2 1:3 2:0", "", "1:3 5:1"},
		{"most:most", "most:1 0:most", "0:most most:most"},
	} {
		is(t, "Add("+x.c+", "+x.l+")", clock.Add(at(x.c), at(x.l)...), x.want)
	}
}

func TestNext(t *testing.T) {
	for _, x := range []struct{ c, actor, want string }{
		{"1:2", "1", "1:3"},
		{"1:2", "9", "9:1"},
		{"", "0", "0:1"},
		{"", "most", "most:1"},
		{"1:0", "1", "1:1"},
		{"1:2 1:7 1:3", "1", "1:8"},
		{"5:1 1:2", "1", "1:3"},
		{"1:most", "1", "1:most"},
		{"1:18446744073709551614", "1", "1:most"},
		{"1:9223372036854775807", "1", "1:9223372036854775808"},
		{"most:most", "0", "0:1"},
		{"0:most most:most", "most", "most:most"},
	} {
		if got := clock.Next(at(x.c), number(x.actor)); got != dot(x.want) {
			t.Errorf("Next(%s, %s): %v, want %s", x.c, x.actor, got, x.want)
		}
	}
}

// P6.4

func TestActor(t *testing.T) {
	for _, x := range []struct {
		node, partition, epoch int
		want                   uint64
	}{
		{0, 0, 0, 0},
		{1, 0, 0, 1 << 48},
		{0, 1, 0, 1 << 32},
		{0, 0, 1, 1},
		{3, 9, 77, 3<<48 + 9<<32 + 77},
		{7, 7, 1, 0x0007000700000001},
		{65535, 65535, 4294967295, most},
		{65536, 65536, 4294967296, 0},
		{65537, 65538, 4294967299, 1<<48 + 2<<32 + 3},
		{65535, 0, 0, 0xffff << 48},
		{0, 65535, 0, 0xffff << 32},
		{0, 0, 4294967295, 0xffffffff},
		{0, 65536, 0, 0},
		{0, 0, 4294967296, 0},
		{-1, -1, -1, most},
		{-1, 0, 0, 0xffff << 48},
		{0, -1, 0, 0xffff << 32},
		{0, 0, -1, 0xffffffff},
		{-65536, -65536, -4294967296, 0},
		{-65535, -65534, -4294967293, 1<<48 + 2<<32 + 3},
		{math.MaxInt, math.MaxInt, math.MaxInt, most},
		{math.MinInt, math.MinInt, math.MinInt, 0},
		{math.MinInt + 1, math.MinInt + 2, math.MinInt + 3, 1<<48 + 2<<32 + 3},
	} {
		if got := clock.Actor(x.node, x.partition, x.epoch); got != x.want {
			t.Errorf("Actor(%d, %d, %d): %x, want %x", x.node, x.partition, x.epoch, got, x.want)
		}
	}
}

func TestParts(t *testing.T) {
	for _, x := range []struct {
		actor                  uint64
		node, partition, epoch int
	}{
		{0, 0, 0, 0},
		{1, 0, 0, 1},
		{1 << 48, 1, 0, 0},
		{1 << 32, 0, 1, 0},
		{0x0123456789abcdef, 0x0123, 0x4567, 0x89abcdef},
		{0xfedcba9876543210, 0xfedc, 0xba98, 0x76543210},
		{most, 65535, 65535, 4294967295},
		{1 << 63, 32768, 0, 0},
		{1 << 47, 0, 32768, 0},
		{1 << 31, 0, 0, 2147483648},
	} {
		node, partition, epoch := clock.Parts(x.actor)
		if node != x.node || partition != x.partition || epoch != x.epoch {
			t.Errorf("Parts(%x): %d, %d, %d", x.actor, node, partition, epoch)
		}
		if got := clock.Actor(clock.Parts(x.actor)); got != x.actor {
			t.Errorf("Actor of the Parts of %x: %x", x.actor, got)
		}
	}
}
