package cask_test

import (
	"fmt"
	"math"
	"slices"
	"strings"
	"testing"

	"murmuration/api"
	"murmuration/cask"
)

// P4.1

func TestFile(t *testing.T) {
	long := strings.Repeat("n", 20)
	for _, l := range []struct {
		name    string
		segment int
		want    string
	}{
		{"v1", 7, "v1.000007"}, {"v1", 1, "v1.000001"}, {"v1", 999999, "v1.999999"}, {"v1", 123456, "v1.123456"}, {"v1", 100000, "v1.100000"}, {"v1", 99999, "v1.099999"}, {"v1", 10, "v1.000010"},
		{"a", 1, "a.000001"}, {"-", 1, "-.000001"}, {"0", 1, "0.000001"}, {"a-9z", 20, "a-9z.000020"},
		{long, 1, long + ".000001"}, {long, 999999, long + ".999999"}, {long + "n", 1, ""}, {long + long, 1, ""}, {strings.Repeat("n", 1<<20), 1, ""},
		{"v1", 0, ""}, {"v1", -1, ""}, {"v1", -7, ""}, {"v1", 1000000, ""}, {"v1", 1000001, ""}, {"v1", math.MaxInt, ""}, {"v1", math.MinInt, ""},
		{"", 1, ""}, {"", 0, ""},
	} {
		if got := cask.File(l.name, l.segment); got != l.want {
			t.Errorf("File(%.40q, %d): %q, want %q", l.name, l.segment, got, l.want)
		}
	}
}

func TestFileOfEachByte(t *testing.T) {
	for b := range 256 {
		for _, name := range []string{string([]byte{byte(b)}), string([]byte{'a', byte(b)}), string([]byte{byte(b), 'a'}), string([]byte{'a', byte(b), 'a'})} {
			want := ""
			if strings.Contains("abcdefghijklmnopqrstuvwxyz0123456789-", string([]byte{byte(b)})) {
				want = name + ".000001"
			}
			if got := cask.File(name, 1); got != want {
				t.Errorf("File(%q, 1): %q, want %q", name, got, want)
			}
		}
	}
}

func TestRecord(t *testing.T) {
	for _, l := range []struct {
		key, value string
		dead       bool
		want       string
		e          api.Errno
	}{
		{"a", "1", false, "\x05\x01a\x00\x011\x30\x1d\x7f\xb0", api.OK},
		{"a", "", true, "\x03\x01a\x01\xf5\x62\xd9\x55", api.OK},
		{"a", "1", false, put("a", "1"), api.OK},
		{"a", "", false, put("a", ""), api.OK},
		{"a", "", true, gone("a"), api.OK},
		{"a", "1", true, gone("a"), api.OK},
		{"\x00\xff", "\x00\x80\xff", false, put("\x00\xff", "\x00\x80\xff"), api.OK},
		{"", "", false, "", api.ErrArg}, {"", "", true, "", api.ErrArg}, {"", "1", false, "", api.ErrArg},
		{"", strings.Repeat("v", 60001), false, "", api.ErrArg},
		{strings.Repeat("k", 255), "1", false, put(strings.Repeat("k", 255), "1"), api.OK},
		{strings.Repeat("k", 255), "1", true, gone(strings.Repeat("k", 255)), api.OK},
		{strings.Repeat("k", 256), "1", false, "", api.ErrSize}, {strings.Repeat("k", 256), "", true, "", api.ErrSize},
		{"a", strings.Repeat("v", 60000), false, put("a", strings.Repeat("v", 60000)), api.OK},
		{"a", strings.Repeat("v", 60000), true, gone("a"), api.OK},
		{"a", strings.Repeat("v", 60001), false, "", api.ErrSize}, {"a", strings.Repeat("v", 60001), true, "", api.ErrSize},
		{strings.Repeat("k", 255), strings.Repeat("v", 60000), false, put(strings.Repeat("k", 255), strings.Repeat("v", 60000)), api.OK},
		{strings.Repeat("k", 1<<24), strings.Repeat("v", 1<<24), false, "", api.ErrSize},
	} {
		if got, e := cask.Record(l.key, l.value, l.dead); got != l.want || e != l.e {
			t.Errorf("Record of %d and %d bytes, %v: %.40q, %d, want %.40q, %d", len(l.key), len(l.value), l.dead, got, int(e), l.want, int(l.e))
		}
	}
}

// parses says what Parse must tell.
func parses(t *testing.T, what, s string, size int, e api.Errno, want ...api.Change) {
	t.Helper()
	got, gotSize, gotE := cask.Parse(s)
	if !slices.Equal(got, want) || gotSize != size || gotE != e {
		t.Errorf("Parse of %s: %.200q, %d, %d, want %.200q, %d, %d", what, fmt.Sprint(got), gotSize, int(gotE), fmt.Sprint(want), size, int(e))
	}
}

func TestParseOfWholeRecords(t *testing.T) {
	parses(t, "no bytes", "", 0, api.OK)
	one, two, three := put("a", "1"), gone("a"), put("\xff", "")
	parses(t, "one", one, len(one), api.OK, api.Change{Key: "a", Value: "1"})
	parses(t, "a dead one", two, len(two), api.OK, api.Change{Key: "a", Dead: true})
	parses(t, "three", one+two+three, len(one+two+three), api.OK, api.Change{Key: "a", Value: "1"}, api.Change{Key: "a", Dead: true}, api.Change{Key: "\xff"})
	key, value := strings.Repeat("k", 255), strings.Repeat("v", 60000)
	long := put(key, value)
	parses(t, "the longest", long+gone(key), len(long+gone(key)), api.OK, api.Change{Key: key, Value: value}, api.Change{Key: key, Dead: true})
	s := ""
	var want []api.Change
	for i := range 3000 {
		c := api.Change{Key: fmt.Sprint(i % 100), Value: strings.Repeat("v", i%300), Dead: i%7 == 0}
		if c.Dead {
			c.Value = ""
		}
		r, e := cask.Record(c.Key, c.Value, c.Dead)
		ok(t, e)
		s += r
		want = append(want, c)
	}
	parses(t, "many", s, len(s), api.OK, want...)
}

func TestParseOfRecordsCutShort(t *testing.T) {
	ahead := put("a", "1") + gone("b")
	changes := []api.Change{{Key: "a", Value: "1"}, {Key: "b", Dead: true}}
	for _, s := range []string{put("c", "12"), gone("c"), put("c", strings.Repeat("x", 300)), put(strings.Repeat("k", 255), "")} {
		for cut := 1; cut < len(s); cut++ {
			parses(t, "one cut short", s[:cut], 0, api.ErrShort)
			parses(t, "one cut short behind others", ahead+s[:cut], len(ahead), api.ErrShort, changes...)
		}
		parses(t, "none behind others", ahead, len(ahead), api.OK, changes...)
	}
	parses(t, "a length alone", "\x80\x80\x04", 0, api.ErrShort)
	parses(t, "a length cut short", ahead+"\x80", len(ahead), api.ErrShort, changes...)
}

func TestParseOfRecordsWithAByteTurned(t *testing.T) {
	ahead := put("a", "1")
	for _, s := range []string{put("c", "12"), gone("c"), put("c", strings.Repeat("x", 100))} {
		for at := 1; at < len(s); at++ {
			for by := 1; by < 256; by++ {
				b := []byte(s)
				b[at] ^= byte(by)
				parses(t, "one with a byte turned", string(b), 0, api.ErrCheck)
				parses(t, "one with a byte turned among others", ahead+string(b)+ahead, len(ahead), api.ErrCheck, api.Change{Key: "a", Value: "1"})
			}
		}
	}
}

func TestParseOfFramesThatAreNone(t *testing.T) {
	ahead := gone("a")
	for s, e := range map[string]api.Errno{
		"\x80\x00":                          api.ErrForm,
		"\x81\x80\x04":                      api.ErrSize,
		"\xff\xff\xff\xff\x0f":              api.ErrSize,
		strings.Repeat("\x80", 10) + "\x01": api.ErrForm,
		framed(strings.Repeat("b", 65537)):  api.ErrSize,
	} {
		parses(t, "a frame that is none", s, 0, e)
		parses(t, "a frame that is none behind a record", ahead+s, len(ahead), e, api.Change{Key: "a", Dead: true})
	}
}

func TestParseOfBodiesThatAreNoRecords(t *testing.T) {
	ahead := put("a", "1")
	for what, body := range map[string]string{
		"nothing":                         "",
		"a key alone":                     text("k"),
		"a key cut short":                 "\x02k",
		"a key's length cut short":        "\x80",
		"a key's length with needless":    "\x81\x00k\x00\x00",
		"no value":                        text("k") + "\x00",
		"a value cut short":               text("k") + "\x00\x02v",
		"bytes behind the value":          text("k") + "\x00" + text("v") + "x",
		"a value behind a dead one":       text("k") + "\x01" + text("v"),
		"an empty value behind a dead":    text("k") + "\x01\x00",
		"a flag that is none":             text("k") + "\x02" + text("v"),
		"another flag that is none":       text("k") + "\xff",
		"an empty key":                    text("") + "\x00" + text("v"),
		"an empty key of a dead one":      text("") + "\x01",
		"a key that is too long":          text(strings.Repeat("k", 256)) + "\x00" + text("v"),
		"a dead key that is too long":     text(strings.Repeat("k", 256)) + "\x01",
		"a value that is too long":        text("k") + "\x00" + text(strings.Repeat("v", 60001)),
		"a length of more than is there":  "\xff\xff\xff\xff\xff\xff\xff\xff\xff\x01",
		"a length of more than there is":  "\xff\xff\xff\xff\xff\xff\xff\xff\xff\x02",
		"zeros":                           strings.Repeat("\x00", 20),
		"the greatest body that may be":   strings.Repeat("b", 65536),
		"two records' bodies in one":      text("k") + "\x01" + text("k") + "\x01",
		"a record's frame within a frame": put("k", "v"),
	} {
		s := framed(body)
		parses(t, what, s, 0, api.ErrForm)
		parses(t, what+", and a record behind it", s+ahead, 0, api.ErrForm)
		parses(t, what+", and records on both sides", ahead+ahead+s+ahead, 2*len(ahead), api.ErrForm, api.Change{Key: "a", Value: "1"}, api.Change{Key: "a", Value: "1"})
		for cut := range min(len(s), 30) {
			want := api.ErrShort
			if cut == 0 {
				want = api.OK
			}
			parses(t, what+", cut short", s[:cut], 0, want)
		}
	}
}

func TestWhatIsParsedIsTheOwnersOwn(t *testing.T) {
	s := put("a", "1") + put("b", "2")
	first, _, _ := cask.Parse(s)
	first[0] = api.Change{Key: "x", Value: "y", Dead: true}
	parses(t, "the same text", s, len(s), api.OK, api.Change{Key: "a", Value: "1"}, api.Change{Key: "b", Value: "2"})
}
