package pack_test

import (
	"fmt"
	"hash/crc32"
	"math/rand"
	"strings"
	"testing"

	"murmuration/api"
	"murmuration/pack"
)

func frame(t *testing.T, body string) string {
	t.Helper()
	s, e := pack.Frame(body)
	if e != api.OK {
		t.Fatalf("Frame of %d bytes: %d", len(body), e)
	}
	return s
}

// told says what Unframe must tell of a text.
func told(t *testing.T, what, s, body string, n int, e api.Errno) {
	t.Helper()
	gotBody, gotN, gotE := pack.Unframe(s)
	if gotBody != body || gotN != n || gotE != e {
		t.Errorf("Unframe of %s: %d bytes, %d, %d, want %d bytes, %d, %d", what, len(gotBody), gotN, gotE, len(body), n, e)
	}
}

func notFramed(t *testing.T, what, s string, e api.Errno) {
	t.Helper()
	told(t, what, s, "", 0, e)
}

// turned is a text of which one byte is another one.
func turned(s string, at int, by byte) string {
	b := []byte(s)
	b[at] ^= by
	return string(b)
}

// P2.3

func TestCheck(t *testing.T) {
	for s, want := range map[string]uint32{"": 0, "123456789": 0xcbf43926, "hi": 0xd8932aac, "\x00": 0xd202ef8d} {
		if got := pack.Check(s); got != want {
			t.Errorf("Check(%q): %08x, want %08x", s, got, want)
		}
	}
	draw := rand.New(rand.NewSource(1))
	for size := range 600 {
		b := make([]byte, size)
		draw.Read(b)
		if got, want := pack.Check(string(b)), crc32.ChecksumIEEE(b); got != want {
			t.Errorf("Check of %d bytes: %08x, want %08x", size, got, want)
		}
	}
}

func TestFrameOfTheExample(t *testing.T) {
	if got, want := fmt.Sprintf("% x", frame(t, "hi")), "02 68 69 d8 93 2a ac"; got != want {
		t.Errorf("Frame: %s, want %s", got, want)
	}
	if got, want := fmt.Sprintf("% x", frame(t, "")), "00 00 00 00 00"; got != want {
		t.Errorf("Frame of nothing: %s, want %s", got, want)
	}
}

func TestFramesOfAllSizes(t *testing.T) {
	for _, size := range []int{0, 1, 2, 127, 128, 129, 16383, 16384, api.MaxFrame - 1, api.MaxFrame} {
		body := strings.Repeat("b", size)
		s := frame(t, body)
		told(t, "a frame", s, body, len(s), api.OK)
		told(t, "a frame with bytes behind it", s+"behind", body, len(s), api.OK)
		told(t, "a frame with another one behind it", s+s, body, len(s), api.OK)
		if want := string((&pack.Writer{}).Text(body).Bytes()); s[:len(s)-4] != want {
			t.Errorf("a frame of %d bytes does not begin with its length and its body", size)
		}
	}
}

func TestFramesThatAreTooLong(t *testing.T) {
	for _, size := range []int{api.MaxFrame + 1, 2 * api.MaxFrame, 1 << 24} {
		body := strings.Repeat("b", size)
		if s, e := pack.Frame(body); s != "" || e != api.ErrSize {
			t.Errorf("Frame of %d bytes: %d bytes, %d", size, len(s), e)
		}
		check := pack.Check(body)
		s := (&pack.Writer{}).Text(body).Raw(string([]byte{byte(check >> 24), byte(check >> 16), byte(check >> 8), byte(check)})).Bytes()
		notFramed(t, "a frame that is too long", s, api.ErrSize)
	}
	for _, length := range []uint64{api.MaxFrame + 1, 1 << 32, 1 << 63, 1<<64 - 5, 1<<64 - 4, 1<<64 - 1} {
		notFramed(t, "a length that is too great, alone", (&pack.Writer{}).Num(length).Bytes(), api.ErrSize)
	}
}

func TestFramesWithoutALength(t *testing.T) {
	notFramed(t, "nothing", "", api.ErrShort)
	notFramed(t, "a length that ends early", "\x80", api.ErrShort)
	notFramed(t, "a length with a needless byte", "\x82\x00hi\xd8\x93\x2a\xac", api.ErrForm)
	notFramed(t, "a length above 2^64 - 1", strings.Repeat("\xff", 9)+"\x02", api.ErrForm)
	notFramed(t, "a length of more than ten bytes", strings.Repeat("\x80", 10)+"\x01", api.ErrForm)
	notFramed(t, "the greatest length there may be, alone", "\x80\x80\x04", api.ErrShort)
}

// P2.4

func TestFramesThatAreCutShort(t *testing.T) {
	for _, size := range []int{0, 1, 2, 127, 128, 300} {
		s := frame(t, strings.Repeat("b", size))
		for cut := range len(s) {
			notFramed(t, "a frame that is cut short", s[:cut], api.ErrShort)
		}
	}
	s := frame(t, strings.Repeat("b", api.MaxFrame))
	for _, cut := range []int{2, 3, 4, api.MaxFrame + 2, api.MaxFrame + 3, api.MaxFrame + 4, api.MaxFrame + 5, api.MaxFrame + 6} {
		notFramed(t, "a long frame that is cut short", s[:cut], api.ErrShort)
	}
}

func TestFramesWithAByteTurned(t *testing.T) {
	for _, body := range []string{"", "h", "hi", strings.Repeat("b", 127)} {
		s := frame(t, body)
		for at := 1; at < len(s); at++ {
			for by := 1; by < 256; by++ {
				notFramed(t, "a frame with a byte turned", turned(s, at, byte(by)), api.ErrCheck)
			}
		}
	}
	s := frame(t, strings.Repeat("b", 300))
	for at := 2; at < len(s); at++ {
		notFramed(t, "a longer frame with a byte turned", turned(s, at, 0x10)+"behind", api.ErrCheck)
	}
}

func TestFramesOneBehindAnother(t *testing.T) {
	bodies := []string{"one", "", "\x00", strings.Repeat("x", 200), "last"}
	s := ""
	for _, body := range bodies {
		s += frame(t, body)
	}
	for _, want := range bodies {
		body, n, e := pack.Unframe(s)
		if body != want || e != api.OK {
			t.Fatalf("%q, %d, want %q", body, e, want)
		}
		s = s[n:]
	}
	if s != "" {
		t.Errorf("%d bytes behind the last frame", len(s))
	}
}
