package clock_test

import (
	"encoding/binary"
	"encoding/hex"
	"slices"
	"strings"
	"testing"

	"murmuration/api"
	"murmuration/clock"
)

// laid are numbers as bytes, by the library's means.
func laid(l ...uint64) string {
	var b []byte
	for _, n := range l {
		b = binary.AppendUvarint(b, n)
	}
	return string(b)
}

// reads says what Read must tell of bytes, and Parse of their digits.
func reads(t *testing.T, s, want string) {
	t.Helper()
	c, e := clock.Read(s)
	is(t, "Read", c, want)
	if e != api.OK {
		t.Errorf("Read(%x): %d", s, int(e))
	}
	c, e = clock.Parse(hex.EncodeToString([]byte(s)))
	is(t, "Parse", c, want)
	if e != api.OK {
		t.Errorf("Parse(%x): %d", s, int(e))
	}
}

func unread(t *testing.T, what, s string) {
	t.Helper()
	if c, e := clock.Read(s); c != nil || e != api.ErrContext {
		t.Errorf("Read of %s, %x: %v, %d", what, s, c, int(e))
	}
	unparsed(t, what, hex.EncodeToString([]byte(s)))
}

func unparsed(t *testing.T, what, s string) {
	t.Helper()
	if c, e := clock.Parse(s); c != nil || e != api.ErrContext {
		t.Errorf("Parse of %s, %q: %v, %d", what, s, c, int(e))
	}
}

// P6.3

func TestBytes(t *testing.T) {
	for _, x := range []struct{ c, want string }{
		{"", laid(0)},
		{"1:2 300:1", "\x02\x01\x02\xac\x02\x01"},
		{"0:1", laid(1, 0, 1)},
		{"1:2 5:1", laid(2, 1, 2, 5, 1)},
		{"127:128", "\x01\x7f\x80\x01"},
		{"most:most", laid(1, most, most)},
		{"0:most most:1", laid(2, 0, most, most, 1)},
	} {
		if got := clock.Bytes(at(x.c)); got != x.want {
			t.Errorf("Bytes(%s): %x, want %x", x.c, got, x.want)
		}
		if got, want := clock.Text(at(x.c)), hex.EncodeToString([]byte(x.want)); got != want {
			t.Errorf("Text(%s): %s, want %s", x.c, got, want)
		}
		reads(t, x.want, x.c)
	}
	if got := clock.Text(at("300:1 1:2")); got != "020102ac0201" {
		t.Errorf("Text of the example: %s", got)
	}
}

func TestBytesAreOfTheNorm(t *testing.T) {
	for s, norm := range wrong {
		if got, want := clock.Bytes(at(s)), clock.Bytes(at(norm)); got != want {
			t.Errorf("Bytes(%s): %x, want %x", s, got, want)
		}
		if got, want := clock.Text(at(s)), clock.Text(at(norm)); got != want {
			t.Errorf("Text(%s): %s, want %s", s, got, want)
		}
		reads(t, clock.Bytes(at(s)), norm)
	}
}

func TestBytesOfManyDots(t *testing.T) {
	var c api.Clock
	numbers := []uint64{300}
	for i := range uint64(300) {
		c = append(c, api.Dot{Actor: i << 48, N: i + 1})
		numbers = append(numbers, i<<48, i+1)
	}
	s := clock.Bytes(c)
	if s != laid(numbers...) {
		t.Error("Bytes of many dots are others")
	}
	got, e := clock.Read(s)
	if !slices.Equal(got, c) || e != api.OK {
		t.Errorf("Read of many dots: %d of them, %d", len(got), int(e))
	}
}

func TestBytesOfNoClock(t *testing.T) {
	unread(t, "nothing", "")
	unread(t, "dots that do not rise", laid(2, 5, 1, 1, 2))
	unread(t, "dots that fall from the greatest actor", laid(2, most, 1, 0, 1))
	unread(t, "an actor twice", laid(2, 1, 2, 1, 2))
	unread(t, "an actor twice, a greater N", laid(2, 1, 2, 1, 3))
	unread(t, "an actor twice, a lesser N", laid(2, 1, 3, 1, 2))
	unread(t, "an actor twice, with another between", laid(3, 1, 3, 2, 1, 1, 4))
	unread(t, "N 0", laid(1, 1, 0))
	unread(t, "actor 0, N 0", laid(1, 0, 0))
	unread(t, "N 0 ahead of another", laid(2, 1, 0, 2, 1))
	unread(t, "N 0 behind another", laid(2, 1, 1, 2, 0))
	unread(t, "too many dots", laid(1, 1, 2, 3, 1))
	unread(t, "too few dots", laid(2, 1, 2))
	unread(t, "a dot without its N", laid(2, 1, 2, 1))
	unread(t, "none, and a dot", laid(0, 1, 2))
	unread(t, "a byte behind none", "\x00\x00")
	unread(t, "a byte behind a dot", laid(1, 1, 2, 0))
	unread(t, "a byte of a number behind a dot", laid(1, 1, 2)+"\x80")
	unread(t, "a count with a needless byte", "\x80\x00")
	unread(t, "a count of one with a needless byte", "\x81\x00\x01\x02")
	unread(t, "an actor with a needless byte", "\x01\x81\x00\x02")
	unread(t, "an N with a needless byte", "\x01\x01\x82\x00")
	unread(t, "an N 0 with a needless byte", "\x01\x01\x80\x00")
	unread(t, "an actor above 2^64 - 1", "\x01"+strings.Repeat("\xff", 9)+"\x02\x01")
	unread(t, "an N above 2^64 - 1", "\x01\x01"+strings.Repeat("\xff", 9)+"\x02")
	unread(t, "an N of more than ten bytes", "\x01\x01"+strings.Repeat("\x80", 10)+"\x01")
	unread(t, "a number without an end", strings.Repeat("\x80", 1000))
	unread(t, "an N without an end", "\x01\x01"+strings.Repeat("\xff", 1000))
	unread(t, "zeros", strings.Repeat("\x00", 1000))
	for _, n := range []uint64{2, 3, 1 << 31, 1 << 32, 1<<63 - 1, 1 << 63, 1<<63 + 1, most - 1, most} {
		unread(t, "a count that is too great", laid(n, 1, 2))
		unread(t, "a count alone", laid(n))
	}
}

func TestBytesThatAreCutOrGrown(t *testing.T) {
	for _, s := range []string{"1:1", "1:2 300:1", "0:most most:most", "1:1 2:2 3:3 4:4"} {
		whole := clock.Bytes(at(s))
		for cut := range len(whole) {
			unread(t, "a beginning of "+s, whole[:cut])
		}
		for b := range 256 {
			unread(t, s+" and a byte", whole+string([]byte{byte(b)}))
		}
		unread(t, s+" twice", whole+whole)
	}
}

func TestTextsOfNoClock(t *testing.T) {
	reads(t, "\x01\x0a\x0b", "10:11")
	reads(t, "\x01\xab\x0d\x01", "1707:1")
	for _, s := range []string{
		"", "0", "000", "0000", "0201020103", "0201020101", "01010", "010100", "0101AA01", "0101020", "010101a",
		"010A0b", "010a0B", "01AB0d01", "01aB0d01", "01Ab0d01",
		" 00", "00 ", "0 0", "\n00", "00\n", "0x00", "00\x00", "+0", "-0", "0g", "g0", "gg", "0/", "0:", "0@", "0`", "/0", ":0", "0é", "é0", "é",
		"\x00\x00", "\xff\xff", "00\xff\xff", "\xff0", "０",
		"01 0102", "0101 02", "010102 ", "01010g", "0101g2", "0101-2", "010102\x00\x00",
	} {
		unparsed(t, "a text of no clock", s)
	}
	if c, e := clock.Parse("00"); len(c) != 0 || e != api.OK {
		t.Errorf("Parse of none: %v, %d", c, int(e))
	}
}

func TestTextsWithOneCharacterTurned(t *testing.T) {
	whole := clock.Text(at("1:2 300:1"))
	for i := range len(whole) {
		for b := range 256 {
			turned := whole[:i] + string([]byte{byte(b)}) + whole[i+1:]
			if strings.IndexByte("0123456789abcdef", byte(b)) < 0 {
				unparsed(t, "a character that is no digit", turned)
				continue
			}
			bytes, _ := hex.DecodeString(turned)
			c, e := clock.Parse(turned)
			want, wantE := clock.Read(string(bytes))
			if !slices.Equal(c, want) || e != wantE {
				t.Errorf("Parse(%s): %v, %d, want %v, %d", turned, c, int(e), want, int(wantE))
			}
		}
	}
}

// clocksOfBytes are the clocks that are right with at most size bytes, of these numbers, by their bytes.
func clocksOfBytes(size int, numbers []uint64) map[string]api.Clock {
	all := map[string]api.Clock{laid(0): nil}
	var grow func(c api.Clock, laidDots string)
	grow = func(c api.Clock, laidDots string) {
		for _, actor := range numbers {
			for _, n := range numbers {
				if n == 0 || len(c) > 0 && c[len(c)-1].Actor >= actor {
					continue
				}
				more := append(slices.Clone(c), api.Dot{Actor: actor, N: n})
				dots := laidDots + laid(actor, n)
				if s := laid(uint64(len(more))) + dots; len(s) <= size {
					all[s] = more
					grow(more, dots)
				}
			}
		}
	}
	grow(nil, "")
	return all
}

// texts are all of at most size bytes of an alphabet.
func texts(size int, alphabet string) []string {
	all := []string{""}
	for i := 0; len(all[i]) < size; i++ {
		for j := range len(alphabet) {
			all = append(all, all[i]+alphabet[j:j+1])
		}
	}
	return all
}

func TestAllBytes(t *testing.T) {
	const size, alphabet = 6, "\x00\x01\x02\x03\x80\x81"
	var numbers []uint64
	for _, s := range texts(size-2, alphabet) {
		if n, _ := binary.Uvarint([]byte(s)); laid(n) == s {
			numbers = append(numbers, n)
		}
	}
	all := clocksOfBytes(size, numbers)
	found := 0
	for _, s := range texts(size, alphabet) {
		want, is := all[s]
		if !is {
			unread(t, "bytes of no clock", s)
			continue
		}
		found++
		got, e := clock.Read(s)
		if !slices.Equal(got, want) || e != api.OK {
			t.Errorf("Read(%x): %v, %d, want %v", s, got, int(e), want)
		}
	}
	if found != len(all) {
		t.Errorf("%d of %d clocks were read", found, len(all))
	}
}
