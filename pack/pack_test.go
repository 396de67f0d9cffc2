package pack_test

import (
	"encoding/binary"
	"encoding/hex"
	"math"
	"math/rand"
	"strings"
	"testing"

	"murmuration/api"
	"murmuration/pack"
)

func bytesOf(t *testing.T, text string) string {
	t.Helper()
	b, err := hex.DecodeString(strings.ReplaceAll(text, " ", ""))
	if err != nil {
		t.Fatal(err)
	}
	return string(b)
}

func wrote(t *testing.T, what string, w *pack.Writer, want string) {
	t.Helper()
	if got := w.Bytes(); got != bytesOf(t, want) {
		t.Errorf("%s: % x, want %s", what, got, want)
	}
}

const allOnes = "ff ff ff ff ff ff ff ff ff 01"

// edgeNumbers has what each number of bytes begins and ends with.
func edgeNumbers() []uint64 {
	l := []uint64{0, 1, math.MaxUint64, math.MaxUint64 - 1}
	for shift := 1; shift < 64; shift++ {
		n := uint64(1) << shift
		l = append(l, n-1, n, n+1)
	}
	return l
}

// P2.1

func TestNumbersAreWritten(t *testing.T) {
	for _, c := range []struct {
		n    uint64
		want string
	}{
		{0, "00"}, {1, "01"}, {127, "7f"}, {128, "80 01"}, {255, "ff 01"}, {300, "ac 02"},
		{16383, "ff 7f"}, {16384, "80 80 01"}, {65536, "80 80 04"}, {1<<32 - 1, "ff ff ff ff 0f"},
		{1<<63 - 1, "ff ff ff ff ff ff ff ff 7f"}, {1 << 63, "80 80 80 80 80 80 80 80 80 01"},
		{math.MaxUint64, allOnes},
	} {
		wrote(t, "Num", (&pack.Writer{}).Num(c.n), c.want)
	}
	wrote(t, "Num of several", (&pack.Writer{}).Num(0, 127, 128, 300), "00 7f 80 01 ac 02")
}

func TestNumbersAreAsTheLibrarysVarints(t *testing.T) {
	for _, n := range edgeNumbers() {
		if got, want := (&pack.Writer{}).Num(n).Bytes(), string(binary.AppendUvarint(nil, n)); got != want {
			t.Errorf("Num(%d): % x, want % x", n, got, want)
		}
		i := int64(n)
		if got, want := (&pack.Writer{}).Int(i).Bytes(), string(binary.AppendVarint(nil, i)); got != want {
			t.Errorf("Int(%d): % x, want % x", i, got, want)
		}
	}
}

func TestIntegersAreWritten(t *testing.T) {
	for _, c := range []struct {
		n    int64
		want string
	}{
		{0, "00"}, {-1, "01"}, {1, "02"}, {-2, "03"}, {63, "7e"}, {-64, "7f"}, {64, "80 01"}, {-65, "81 01"},
		{math.MaxInt64, "fe ff ff ff ff ff ff ff ff 01"}, {math.MinInt64, allOnes},
	} {
		wrote(t, "Int", (&pack.Writer{}).Int(c.n), c.want)
	}
	wrote(t, "Int of several", (&pack.Writer{}).Int(0, -1, 1, -64), "00 01 02 7f")
}

func TestFlagsTextsAndRawAreWritten(t *testing.T) {
	wrote(t, "Flag", (&pack.Writer{}).Flag(true, false, true), "01 00 01")
	wrote(t, "Text", (&pack.Writer{}).Text("hi"), "02 68 69")
	wrote(t, "Text of several", (&pack.Writer{}).Text("", "\x00", "\xff\xfe"), "00 01 00 02 ff fe")
	wrote(t, "Raw", (&pack.Writer{}).Raw("hi", "", "\x80\x00"), "68 69 80 00")
	wrote(t, "Text, Flag", (&pack.Writer{}).Text("hi").Flag(true), "02 68 69 01")
	long := strings.Repeat("x", 300)
	if got := (&pack.Writer{}).Text(long).Bytes(); got != "\xac\x02"+long {
		t.Errorf("a long text: %d bytes, beginning % x", len(got), got[:4])
	}
}

func TestListsOfNoThings(t *testing.T) {
	w := &pack.Writer{}
	w.Num().Int().Flag().Text().Raw()
	w.Num(nil...).Int(nil...).Flag(nil...).Text(nil...).Raw(nil...)
	wrote(t, "nothing", w, "")
	wrote(t, "a thing behind nothing", w.Flag(true).Num(), "01")
}

func TestEachCallTellsTheWriterItself(t *testing.T) {
	w := &pack.Writer{}
	for i, got := range []*pack.Writer{w.Num(1), w.Int(1), w.Flag(true), w.Text("a"), w.Raw("b"), w.Num(), w.Raw()} {
		if got != w {
			t.Errorf("call %d tells another writer", i)
		}
	}
	wrote(t, "in order", w, "01 02 01 01 61 62")
}

func TestBytesMayBeAskedAgain(t *testing.T) {
	w := &pack.Writer{}
	none := w.Bytes()
	w.Num(1)
	one := w.Bytes()
	w.Num(2)
	if none != "" || one != "\x01" || w.Bytes() != "\x01\x02" || w.Bytes() != "\x01\x02" {
		t.Errorf("% x, % x, % x", none, one, w.Bytes())
	}
}

func TestWritersKeepNothingOfAnother(t *testing.T) {
	a, b := &pack.Writer{}, &pack.Writer{}
	for i := range 100 {
		a.Num(uint64(i))
		b.Flag(i%2 == 0)
	}
	if len(a.Bytes()) != 100 || len(b.Bytes()) != 100 || a.Bytes()[50] != 50 || b.Bytes()[50] != 1 {
		t.Errorf("% x and % x", a.Bytes(), b.Bytes())
	}
}

func TestWritersLeaveTheirArguments(t *testing.T) {
	nums, ints, flags, texts := []uint64{1, 300}, []int64{-1, 300}, []bool{true, false}, []string{"a", "b"}
	w := (&pack.Writer{}).Num(nums...).Int(ints...).Flag(flags...).Text(texts...).Raw(texts...)
	told := w.Bytes()
	if nums[0] != 1 || nums[1] != 300 || ints[0] != -1 || ints[1] != 300 || !flags[0] || flags[1] || texts[0] != "a" || texts[1] != "b" {
		t.Error("an argument was changed")
	}
	nums[0], ints[0], flags[0], texts[0] = 7, 7, false, "z"
	if w.Bytes() != told {
		t.Error("an argument was kept")
	}
}

func TestNilWriter(t *testing.T) {
	var w *pack.Writer
	if w.Num(1) != nil || w.Int(1) != nil || w.Flag(true) != nil || w.Text("a") != nil || w.Raw("a") != nil || w.Num() != nil {
		t.Error("a nil writer tells another one")
	}
	if w.Num(1).Text("a").Bytes() != "" {
		t.Error("a nil writer has bytes")
	}
}

// P2.2

// reads has each kind of reading, told as whether the answer was the zero value.
var reads = map[string]func(*pack.Reader) bool{
	"Num":      func(r *pack.Reader) bool { return r.Num() == 0 },
	"Int":      func(r *pack.Reader) bool { return r.Int() == 0 },
	"Flag":     func(r *pack.Reader) bool { return !r.Flag() },
	"Text":     func(r *pack.Reader) bool { return r.Text() == "" },
	"Raw(2)":   func(r *pack.Reader) bool { return r.Raw(2) == "" },
	"Raw(1)":   func(r *pack.Reader) bool { return r.Raw(1) == "" },
	"Raw(0)":   func(r *pack.Reader) bool { return r.Raw(0) == "" },
	"Raw(-1)":  func(r *pack.Reader) bool { return r.Raw(-1) == "" },
	"Many(1)":  func(r *pack.Reader) bool { return r.Many(1) == 0 },
	"Many(0)":  func(r *pack.Reader) bool { return r.Many(0) == 0 },
	"Many(-1)": func(r *pack.Reader) bool { return r.Many(-1) == 0 },
}

// hasNothing says that each call tells zero, and that the error stays.
func hasNothing(t *testing.T, what string, r *pack.Reader, want api.Errno) {
	t.Helper()
	for name, zero := range reads {
		if !zero(r) {
			t.Errorf("%s: %s tells something behind the error", what, name)
		}
		if r.Left() != 0 || r.Done() != want {
			t.Errorf("%s, %s: Left %d, Done %d, want 0, %d", what, name, r.Left(), r.Done(), want)
		}
	}
	r.Fail(api.ErrFull)
	r.Fail(api.OK)
	if r.Left() != 0 || r.Done() != want {
		t.Errorf("%s, Fail: Left %d, Done %d, want 0, %d", what, r.Left(), r.Done(), want)
	}
}

// refused says that one reading of a text has an error, and what follows from it.
func refused(t *testing.T, name, s string, want api.Errno) {
	t.Helper()
	for _, ahead := range []string{"", "\x00ahead"} {
		r := pack.Read(ahead + s)
		r.Raw(len(ahead))
		if !reads[name](r) {
			t.Errorf("%s of % x tells something", name, s)
		}
		hasNothing(t, name+" of "+hex.EncodeToString([]byte(s)), r, want)
	}
}

func TestNumbersAreRead(t *testing.T) {
	for _, n := range edgeNumbers() {
		s := string(binary.AppendUvarint(nil, n))
		r := pack.Read(s + "more")
		if got := r.Num(); got != n || r.Left() != 4 {
			t.Errorf("Num of % x: %d, Left %d, want %d", s, got, r.Left(), n)
		}
		r = pack.Read(string(binary.AppendVarint(nil, int64(n))))
		if got := r.Int(); got != int64(n) || r.Done() != api.OK {
			t.Errorf("Int: %d, Done %d, want %d", got, r.Done(), int64(n))
		}
	}
	r := pack.Read("\x00\x01\x02\x7f\xff\xff\xff\xff\xff\xff\xff\xff\xff\x01\xfe\xff\xff\xff\xff\xff\xff\xff\xff\x01")
	for _, want := range []int64{0, -1, 1, -64, math.MinInt64, math.MaxInt64} {
		if got := r.Int(); got != want {
			t.Errorf("Int: %d, want %d", got, want)
		}
	}
	if r.Done() != api.OK {
		t.Errorf("Done: %d", r.Done())
	}
}

func TestNumbersThatAreNone(t *testing.T) {
	for _, s := range []string{
		"80 00", "81 00", "ff 00", "80 80 00", "ff 80 00", // a needless last byte
		"80 80 80 80 80 80 80 80 80 00", "ff ff ff ff ff ff ff ff ff 00",
		"80 80 80 80 80 80 80 80 80 02", "ff ff ff ff ff ff ff ff ff 02", "ff ff ff ff ff ff ff ff ff 03", "ff ff ff ff ff ff ff ff ff 7f", // above 2^64 - 1
		"80 80 80 80 80 80 80 80 80 80 00", "80 80 80 80 80 80 80 80 80 80 01", "ff ff ff ff ff ff ff ff ff 81 00", "ff ff ff ff ff ff ff ff ff 81 01", // more than ten bytes
		"ff ff ff ff ff ff ff ff ff ff ff ff ff ff ff ff ff ff ff ff 01", "80 80 80 80 80 80 80 80 80 80 80 80 80 80 80 80 80 80 80 80 00",
	} {
		for _, name := range []string{"Num", "Int", "Text", "Many(1)"} {
			refused(t, name, bytesOf(t, s), api.ErrForm)
			refused(t, name, bytesOf(t, s)+"behind", api.ErrForm)
		}
	}
}

func TestNumbersThatEndEarly(t *testing.T) {
	for _, n := range edgeNumbers() {
		s := string(binary.AppendUvarint(nil, n))
		for cut := range len(s) {
			for _, name := range []string{"Num", "Int", "Text", "Many(1)"} {
				refused(t, name, s[:cut], api.ErrShort)
			}
		}
	}
}

// Both errors apply to bytes that go on and on, and then end: ErrShort is named first.
func TestNumbersThatNeverEnd(t *testing.T) {
	for size := 1; size <= 30; size++ {
		refused(t, "Num", strings.Repeat("\x80", size), api.ErrShort)
		refused(t, "Num", strings.Repeat("\xff", size), api.ErrShort)
	}
}

func TestFlagsAreRead(t *testing.T) {
	r := pack.Read("\x01\x00")
	if !r.Flag() || r.Left() != 1 || r.Flag() || r.Done() != api.OK {
		t.Error("flags are not read")
	}
	refused(t, "Flag", "", api.ErrShort)
	for b := 2; b < 256; b++ {
		refused(t, "Flag", string([]byte{byte(b)}), api.ErrForm)
		refused(t, "Flag", string([]byte{byte(b), 0}), api.ErrForm)
	}
}

func TestTextsAreRead(t *testing.T) {
	long := strings.Repeat("\xff\x00", 100000)
	r := pack.Read((&pack.Writer{}).Text("hi", "", long, "\x00").Bytes())
	if r.Text() != "hi" || r.Text() != "" || r.Text() != long || r.Left() != 2 || r.Text() != "\x00" || r.Done() != api.OK {
		t.Error("texts are not read")
	}
	whole := (&pack.Writer{}).Text(strings.Repeat("x", 200)).Bytes()
	for cut := range len(whole) {
		refused(t, "Text", whole[:cut], api.ErrShort)
	}
	refused(t, "Text", bytesOf(t, allOnes)+"abc", api.ErrShort)
	refused(t, "Text", "\xff\xff\xff\xff\xff\xff\xff\xff\x7fabc", api.ErrShort)
}

func TestRawIsRead(t *testing.T) {
	r := pack.Read("abcdef")
	for _, c := range []struct {
		n, left int
		want    string
	}{{2, 4, "ab"}, {0, 4, ""}, {-1, 4, ""}, {math.MinInt, 4, ""}, {3, 1, "cde"}, {1, 0, "f"}, {0, 0, ""}, {-7, 0, ""}} {
		if got := r.Raw(c.n); got != c.want || r.Left() != c.left {
			t.Errorf("Raw(%d): %q, Left %d, want %q, %d", c.n, got, r.Left(), c.want, c.left)
		}
	}
	if r.Done() != api.OK {
		t.Errorf("Done: %d", r.Done())
	}
	refused(t, "Raw(2)", "a", api.ErrShort)
	refused(t, "Raw(1)", "", api.ErrShort)
	r = pack.Read("abc")
	if r.Raw(math.MaxInt) != "" || r.Done() != api.ErrShort {
		t.Error("Raw of the greatest integer")
	}
}

func TestMany(t *testing.T) {
	for _, c := range []struct {
		s     string
		least int
		want  int
		e     api.Errno
	}{
		{"\x00", 1, 0, api.OK}, {"\x00", math.MaxInt, 0, api.OK}, {"\x00abc", 4, 0, api.OK},
		{"\x03abc", 1, 3, api.OK}, {"\x04abc", 1, 0, api.ErrShort}, {"\x02abc", 1, 2, api.OK},
		{"\x03abc", 0, 3, api.OK}, {"\x04abc", 0, 0, api.ErrShort},
		{"\x03abc", -5, 3, api.OK}, {"\x04abc", math.MinInt, 0, api.ErrShort},
		{"\x01abc", 2, 1, api.OK}, {"\x02abc", 2, 0, api.ErrShort}, {"\x02abcd", 2, 2, api.OK}, {"\x02abcde", 2, 2, api.OK},
		{"\x01abc", 3, 1, api.OK}, {"\x01abc", 4, 0, api.ErrShort}, {"\x01abc", math.MaxInt, 0, api.ErrShort},
		{"\x01", 1, 0, api.ErrShort},
		{"\xff\xff\xff\xff\xff\xff\xff\xff\xff\x01abc", 1, 0, api.ErrShort},
		{"\x80\x80\x80\x80\x80\x80\x80\x80\x80\x01abc", 2, 0, api.ErrShort}, // times 2 it is 0 again
	} {
		r := pack.Read(c.s)
		got := r.Many(c.least)
		if got != c.want {
			t.Errorf("Many(%d) of % x: %d, want %d", c.least, c.s, got, c.want)
		}
		if c.e != api.OK {
			hasNothing(t, "Many", r, c.e)
			continue
		}
		if left := len(c.s) - 1; r.Left() != left {
			t.Errorf("Many(%d) of % x: Left %d, want %d", c.least, c.s, r.Left(), left)
		}
	}
}

func TestFail(t *testing.T) {
	for _, e := range []api.Errno{api.ErrArg, api.ErrShort, api.ErrForm, api.ErrKind, 999, -1} {
		r := pack.Read("\x01\x02\x03")
		r.Num()
		r.Fail(api.OK)
		if r.Left() != 2 || r.Num() != 2 {
			t.Error("Fail(OK) changes the reader")
		}
		r.Fail(e)
		hasNothing(t, "Fail", r, e)
		r = pack.Read("")
		r.Fail(e)
		hasNothing(t, "Fail behind the end", r, e)
	}
	r := pack.Read("\x02")
	r.Flag()
	r.Fail(api.ErrKind)
	if r.Done() != api.ErrForm {
		t.Errorf("Fail behind an error: Done %d", r.Done())
	}
}

func TestDone(t *testing.T) {
	if e := pack.Read("").Done(); e != api.OK {
		t.Errorf("of nothing: %d", e)
	}
	r := pack.Read("\x01\x01")
	if r.Done() != api.ErrForm || r.Num() != 1 || r.Done() != api.ErrForm || r.Left() != 1 {
		t.Error("bytes that are left are no error")
	}
	if r.Num() != 1 || r.Done() != api.OK || r.Done() != api.OK {
		t.Error("that bytes were left is kept as an error")
	}
}

func TestReadersKeepNothingOfAnother(t *testing.T) {
	a, b := pack.Read("\x01\x02"), pack.Read("\x01\x02")
	a.Num()
	a.Fail(api.ErrArg)
	if b.Left() != 2 || b.Num() != 1 || b.Done() != api.ErrForm {
		t.Error("a reader hangs on another one")
	}
}

func TestNilAndZeroReader(t *testing.T) {
	var none *pack.Reader
	hasNothing(t, "a nil reader", none, api.ErrArg)
	zero := &pack.Reader{}
	if zero.Left() != 0 || zero.Done() != api.OK || zero.Raw(0) != "" || zero.Num() != 0 || zero.Done() != api.ErrShort {
		t.Error("a zero reader is not one of no bytes")
	}
}

// P2.4

// thing is a written thing, which can be read again.
type thing struct {
	write func(*pack.Writer)
	read  func(*pack.Reader) bool
}

func anyThing(draw *rand.Rand) thing {
	n := draw.Uint64() >> draw.Intn(64)
	s := string(binary.BigEndian.AppendUint64(nil, n))[draw.Intn(9):]
	switch draw.Intn(5) {
	case 0:
		return thing{func(w *pack.Writer) { w.Num(n) }, func(r *pack.Reader) bool { return r.Num() == n }}
	case 1:
		return thing{func(w *pack.Writer) { w.Int(int64(n)) }, func(r *pack.Reader) bool { return r.Int() == int64(n) }}
	case 2:
		return thing{func(w *pack.Writer) { w.Flag(n%2 == 0) }, func(r *pack.Reader) bool { return r.Flag() == (n%2 == 0) }}
	case 3:
		return thing{func(w *pack.Writer) { w.Text(s) }, func(r *pack.Reader) bool { return r.Text() == s }}
	}
	return thing{func(w *pack.Writer) { w.Raw(s) }, func(r *pack.Reader) bool { return r.Raw(len(s)) == s }}
}

func TestWhatWasWrittenIsReadAgain(t *testing.T) {
	draw := rand.New(rand.NewSource(2))
	for range 2000 {
		things := make([]thing, draw.Intn(20))
		w := &pack.Writer{}
		ends := []int{}
		for i := range things {
			things[i] = anyThing(draw)
			things[i].write(w)
			ends = append(ends, len(w.Bytes()))
		}
		r := pack.Read(w.Bytes())
		for i := range things {
			if !things[i].read(r) || r.Left() != len(w.Bytes())-ends[i] {
				t.Fatalf("thing %d of % x is not read again", i, w.Bytes())
			}
		}
		if r.Done() != api.OK {
			t.Fatalf("Done: %d", r.Done())
		}
	}
}

// All texts of one and two bytes, and some of three: what is read of them is written as just those bytes.
func TestWhatIsReadIsWrittenAsThoseBytes(t *testing.T) {
	for size, step := range []int{1, 1, 1, 13} {
		for i := 0; i < 1<<(8*size); i += step {
			s := string(binary.BigEndian.AppendUint32(nil, uint32(i))[4-size:])
			again := []func(*pack.Reader) *pack.Writer{
				func(r *pack.Reader) *pack.Writer { return (&pack.Writer{}).Num(r.Num()) },
				func(r *pack.Reader) *pack.Writer { return (&pack.Writer{}).Int(r.Int()) },
				func(r *pack.Reader) *pack.Writer { return (&pack.Writer{}).Flag(r.Flag()) },
				func(r *pack.Reader) *pack.Writer { return (&pack.Writer{}).Text(r.Text()) },
			}
			for kind, f := range again {
				r := pack.Read(s)
				w := f(r)
				if r.Done() == api.OK && w.Bytes() != s {
					t.Fatalf("kind %d: % x is read, and written as % x", kind, s, w.Bytes())
				}
			}
		}
	}
}

func FuzzReader(f *testing.F) {
	f.Add("\x02hi\x01\x80\x01", 3)
	f.Fuzz(func(t *testing.T, s string, n int) {
		for name := range reads {
			r := pack.Read(s)
			reads[name](r)
			r.Raw(n)
			r.Many(n)
			if r.Left() > len(s) {
				t.Errorf("%s: %d bytes left of %d", name, r.Left(), len(s))
			}
		}
		pack.Unframe(s)
	})
}
