package sha_test

import (
	"crypto/sha256"
	"encoding/hex"
	"slices"
	"strings"
	"testing"

	"murmuration/sha"
)

const (
	sumOfNothing = "e3b0c44298fc1c149afbf4c8996fb92427ae41e4649b934ca495991b7852b855"
	sumOfAbc     = "ba7816bf8f01cfea414140de5dae2223b00361a396177a9cb410ff61f20015ad"
)

// sample is a text of n bytes in which all values of a byte come, at no even beat with the blocks.
func sample(n int) string {
	b := make([]byte, n)
	x := uint32(n) + 1
	for i := range b {
		x = x*1664525 + 1013904223
		b[i] = byte(x >> 24)
	}
	return string(b)
}

func isSum(t *testing.T, what string, got [32]byte, text string) {
	t.Helper()
	if want := sha256.Sum256([]byte(text)); got != want {
		t.Errorf("%s: %x, want %x", what, got, want)
	}
}

func isText(t *testing.T, what, got, want string) {
	t.Helper()
	if got != want {
		t.Errorf("%s: %q, want %q", what, got, want)
	}
}

// P1.1: texts whose sums are known from elsewhere, the chapter's examples among them.
func TestKnownSums(t *testing.T) {
	for _, c := range []struct{ text, want string }{
		{"", sumOfNothing},
		{"abc", sumOfAbc},
		{"abcdbcdecdefdefgefghfghighijhijkijkljklmklmnlmnomnopnopq", "248d6a61d20638b8e5c026930c3e6039a33ce45964ff2167f6ecedd419db06c1"},
		{"abcdefghbcdefghicdefghijdefghijkefghijklfghijklmghijklmnhijklmnoijklmnopjklmnopqklmnopqrlmnopqrsmnopqrstnopqrstu", "cf5b16a778af8380036ce59e7b0492370b249b11e8f07a51afac45037afee9d1"},
		{"The quick brown fox jumps over the lazy dog", "d7a8fbb307d7809469ca9abcb0082e4f8d5651e46d3cdb762d02d0bf37c9e592"},
		{strings.Repeat("a", 1000000), "cdc76e5c9914fb9281a1c7e284d73e67f1809a48a497200e046d39ccc7112cd0"},
	} {
		isText(t, c.text[:min(len(c.text), 40)], sha.Text(sha.Sum(c.text)), c.want)
	}
	isText(t, "no parts", sha.Text(sha.Sum()), sumOfNothing)
	isText(t, "three parts", sha.Text(sha.Sum("a", "", "bc")), sumOfAbc)
}

// P1.1: every length over several blocks, so that each place of the padding comes, of bytes of all values.
func TestSumsOfAllLengths(t *testing.T) {
	for n := range 5*64 + 2 {
		text := sample(n)
		isSum(t, "a sample", sha.Sum(text), text)
		for _, b := range []string{"\x00", "\x80", "\xff"} {
			isSum(t, "one byte again and again", sha.Sum(strings.Repeat(b, n)), strings.Repeat(b, n))
		}
	}
}

// P1.1: lengths whose count of bits takes two, three and four bytes.
func TestSumsOfLongTexts(t *testing.T) {
	for _, n := range []int{31, 32, 8191, 8192, 1<<16 - 1, 1 << 16, 1<<21 - 1, 1 << 21, 1<<21 + 55, 1<<21 + 56} {
		text := sample(n)
		isSum(t, "a long text", sha.Sum(text), text)
	}
}

// P1.1: a text of 2^29 bytes, whose count of bits is above 32 bits.
func TestSumOfAHugeText(t *testing.T) {
	if testing.Short() {
		t.Skip("takes some seconds")
	}
	part := sample(1 << 20)
	h, want := sha.New(), sha256.New()
	for range 1 << 9 {
		h.Write(part)
		want.Write([]byte(part))
	}
	if got := h.Sum(); !slices.Equal(got[:], want.Sum(nil)) {
		t.Errorf("%x, want %x", got, want.Sum(nil))
	}
}

// P1.1, P1.4: bytes that are no UTF-8 are bytes like others, and a byte 80 at the end is no padding.
func TestSumsTellTextsApart(t *testing.T) {
	seen := map[[32]byte]string{}
	for _, text := range []string{"", "\x00", "\x00\x00", "\x80", "\x80\x00", "a", "a\x80", "\xff", "\xc3\x28", "\u00e9", "e\u0301"} {
		sum := sha.Sum(text)
		isSum(t, "odd bytes", sum, text)
		if other, ok := seen[sum]; ok {
			t.Errorf("%q and %q have one sum", text, other)
		}
		seen[sum] = text
	}
}

// P1.4: a text cut at any two places, with empty parts between, has the sum of the whole.
func TestPartsCutAnywhere(t *testing.T) {
	for _, n := range []int{0, 1, 55, 56, 63, 64, 65, 119, 120, 127, 128, 129, 192} {
		text := sample(n)
		for i := range n + 1 {
			isSum(t, "two parts", sha.Sum(text[:i], text[i:]), text)
			for j := i; j <= n; j += 7 {
				isSum(t, "three parts", sha.Sum(text[:i], "", text[i:j], "", text[j:], ""), text)
			}
		}
	}
	isSum(t, "empty parts", sha.Sum("", "", ""), "")
}

// P1.4: byte by byte, as parts of one call and by a call each.
func TestPartsOfOneByte(t *testing.T) {
	text := sample(300)
	h := sha.New()
	var parts []string
	for i := range len(text) {
		h.Write(text[i : i+1])
		parts = append(parts, text[i:i+1])
	}
	isSum(t, "calls of one byte", h.Sum(), text)
	isSum(t, "parts of one byte", sha.Sum(parts...), text)
}

// P1.2: Sum may be asked behind each Write, and the hash written on.
func TestSumInBetween(t *testing.T) {
	for _, step := range []int{1, 7, 31, 55, 56, 63, 64, 65, 128, 200} {
		h := sha.New()
		text := sample(5 * step)
		isSum(t, "before the first Write", h.Sum(), "")
		for i := 0; i < len(text); i += step {
			h.Write(text[i : i+step])
			isSum(t, "in between", h.Sum(), text[:i+step])
			isSum(t, "asked again", h.Sum(), text[:i+step])
		}
	}
}

// P1.2: Write of no parts and of empty ones writes nothing.
func TestWriteNothing(t *testing.T) {
	h := sha.New()
	h.Write()
	h.Write("", "")
	isSum(t, "nothing written", h.Sum(), "")
	h.Write("ab")
	h.Write()
	h.Write("", "c", "")
	isText(t, "abc", sha.Text(h.Sum()), sumOfAbc)
}

// P1.2: each hash is one of its own, a copy of one too.
func TestHashesAreApart(t *testing.T) {
	a, b := sha.New(), sha.New()
	a.Write("left")
	b.Write("right")
	isSum(t, "the one", a.Sum(), "left")
	isSum(t, "the other", b.Sum(), "right")
	c := *a
	c.Write(sample(100))
	a.Write(" on")
	isSum(t, "the first", a.Sum(), "left on")
	isSum(t, "its copy", c.Sum(), "left"+sample(100))
}

// P1.2: a zero hash is New(), a nil one takes nothing.
func TestZeroAndNilHash(t *testing.T) {
	var zero sha.Hash
	isSum(t, "zero", zero.Sum(), "")
	text := sample(150)
	zero.Write(text[:60], text[60:])
	isSum(t, "zero, written", zero.Sum(), text)
	zero.Write(text)
	isSum(t, "zero, written on", zero.Sum(), text+text)

	var none *sha.Hash
	isSum(t, "nil", none.Sum(), "")
	none.Write()
	none.Write("a", text)
	isSum(t, "nil, written", none.Sum(), "")
	isText(t, "New", sha.Text(sha.New().Sum()), sumOfNothing)
}

// P1.3: Join of no sums, of one and of several, against the sum of their bytes.
func TestJoin(t *testing.T) {
	isText(t, "of none", sha.Text(sha.Join()), sumOfNothing)
	isText(t, "of nil", sha.Text(sha.Join([][32]byte(nil)...)), sumOfNothing)
	var sums [][32]byte
	var text []byte
	for n := range 20 {
		sum := sha.Sum(sample(n))
		sums = append(sums, sum)
		text = append(text, sum[:]...)
		isSum(t, "of several", sha.Join(sums...), string(text))
	}
	isSum(t, "of a zero sum", sha.Join([32]byte{}), strings.Repeat("\x00", 32))
	if sha.Join(sums[0], sums[1]) == sha.Join(sums[1], sums[0]) {
		t.Error("Join doesn't hang on the order")
	}
}

// R3: what is handed in stays as it is, and may be changed behind the call.
func TestArgumentsStay(t *testing.T) {
	sums := [][32]byte{sha.Sum("x"), sha.Sum("y"), sha.Sum("z")}
	kept := slices.Clone(sums)
	joined := sha.Join(sums...)
	if !slices.Equal(sums, kept) {
		t.Error("Join changed what it was handed")
	}
	sums[1] = [32]byte{}
	if joined != sha.Join(kept...) {
		t.Error("a change behind the call changed the answer")
	}

	parts := []string{sample(60), sample(10), ""}
	text := strings.Join(parts, "")
	h := sha.New()
	h.Write(parts...)
	if strings.Join(parts, "") != text {
		t.Error("Write changed what it was handed")
	}
	parts[1] = "other"
	isSum(t, "parts changed behind the call", h.Sum(), text)
}

// R3: a sum that was told doesn't change later, and to change it changes nothing.
func TestAnswersAreTheirOwners(t *testing.T) {
	h := sha.New()
	h.Write("ab")
	told := h.Sum()
	h.Write("c")
	isSum(t, "told before", told, "ab")
	told = h.Sum()
	told[0]++
	isText(t, "told after", sha.Text(h.Sum()), sumOfAbc)
}

// P1.3: Text has 64 digits, two a byte, the higher one first, in small letters.
func TestText(t *testing.T) {
	for b := range 256 {
		var sum [32]byte
		for i := range sum {
			sum[i] = byte(b + 7*i)
		}
		isText(t, "Text", sha.Text(sum), hex.EncodeToString(sum[:]))
	}
	isText(t, "zero", sha.Text([32]byte{}), strings.Repeat("0", 64))
	isText(t, "one bit", sha.Text([32]byte{31: 0x1f}), strings.Repeat("0", 62)+"1f")
	isText(t, "first byte", sha.Text([32]byte{0: 0xa0}), "a0"+strings.Repeat("0", 62))
}
