package store_test

import (
	"encoding/binary"
	"math"
	"strings"
	"testing"

	"murmuration/api"
	"murmuration/pack"
	"murmuration/store"
)

// laid are a store's bytes just as it stands, by the library's means.
func laid(s api.Store) string {
	b := binary.AppendUvarint(nil, uint64(len(s.Entries)))
	for _, e := range s.Entries {
		b = binary.AppendUvarint(b, e.Dot.Actor)
		b = binary.AppendUvarint(b, e.Dot.N)
		b = binary.AppendVarint(b, e.N)
		b = binary.AppendUvarint(b, uint64(len(e.S)))
		b = append(b, e.S...)
		b = binary.AppendUvarint(b, e.T)
	}
	b = binary.AppendUvarint(b, uint64(len(s.Fields)))
	for _, f := range s.Fields {
		b = binary.AppendVarint(b, int64(f.Kind))
		b = binary.AppendUvarint(b, uint64(len(f.Name)))
		b = append(b, f.Name...)
		b = append(b, laid(f.Store)...)
	}
	return string(b)
}

func written(s api.Store) string {
	w := &pack.Writer{}
	store.Write(w, s)
	return w.Bytes()
}

// reads says that bytes are those of a store, and that none behind them are taken.
func reads(t *testing.T, s string, want api.Store) {
	t.Helper()
	r := pack.Read(s)
	if got := store.Read(r); told(got) != told(want) || r.Done() != api.OK {
		t.Errorf("Read(%x): %s, %d, want %s", s, told(got), int(r.Done()), told(want))
	}
	r = pack.Read(s + "\x07\x00")
	if got := store.Read(r); told(got) != told(want) || r.Left() != 2 || r.Num() != 7 {
		t.Errorf("Read(%x) with others behind: %s, %d left", s, told(got), r.Left())
	}
}

// unread says that a reader has the error, and nothing more.
func unread(t *testing.T, what, s string, want api.Errno) {
	t.Helper()
	r := pack.Read(s)
	got := store.Read(r)
	if got.Entries != nil || got.Fields != nil || r.Done() != want || r.Left() != 0 {
		t.Errorf("Read of %s, %x: %s, %d, %d left", what, s, told(got), int(r.Done()), r.Left())
	}
	if again := store.Read(r); told(again) != "{}" || r.Done() != want || r.Num() != 0 {
		t.Errorf("Read again behind %s: %s, %d", what, told(again), int(r.Done()))
	}
}

// P7.4

func TestWrite(t *testing.T) {
	for _, x := range []struct{ s, want string }{
		{"", "\x00\x00"},
		{"1.1", "\x01\x01\x01\x00\x00\x00\x00"},
		{"1.1 x:{1.2 2.1}", "\x01\x01\x01\x00\x00\x00\x01\x00\x01x\x02\x01\x02\x00\x00\x00\x02\x01\x00\x00\x00\x00"},
		{"300.5(-1,hi,127)", "\x01\xac\x02\x05\x01\x02hi\x7f\x00"},
		{"1.1(1,,128) -1ab:{1.1}", "\x01\x01\x01\x02\x00\x80\x01\x01\x01\x02ab\x01\x01\x01\x00\x00\x00\x00"},
		{"6m:{5r:{1.1(0,u,9)}}", "\x00\x01\x0c\x01m\x00\x01\x0a\x01r\x01\x01\x01\x00\x01u\x09\x00"},
	} {
		if got := written(at(x.s)); got != x.want {
			t.Errorf("Write of {%s}: %x, want %x", x.s, got, x.want)
		}
		reads(t, x.want, at(x.s))
	}
	for _, s := range right {
		if got, want := written(at(s)), laid(at(s)); got != want {
			t.Errorf("Write of {%s}: %x, want %x", s, got, want)
		}
		reads(t, laid(at(s)), at(s))
	}
}

func TestWriteOfTheNorm(t *testing.T) {
	for s, norm := range wrong {
		if got, want := written(at(s)), laid(at(norm)); got != want {
			t.Errorf("Write of {%s}: %x, want %x", s, got, want)
		}
	}
	for n := range 12 {
		want := laid(api.Store{})
		if n <= 8 {
			want = laid(deep(n, at("1.1")))
		}
		if got := written(deep(n, at("1.1"))); got != want {
			t.Errorf("Write within %d fields: %x", n, got)
		}
	}
}

func TestWriteBehindOthers(t *testing.T) {
	w := (&pack.Writer{}).Text("ahead")
	store.Write(w, at("1.1"))
	store.Write(w, at(""))
	w.Num(7)
	r := pack.Read(w.Bytes())
	ahead := r.Text()
	first, second := store.Read(r), store.Read(r)
	if n := r.Num(); ahead != "ahead" || n != 7 || r.Done() != api.OK {
		t.Errorf("beside stores: %s, %d, %d", ahead, n, int(r.Done()))
	}
	is(t, "the first store", first, "1.1")
	is(t, "the second store", second, "")
}

func TestNoWriterAndNoReader(t *testing.T) {
	store.Write(nil, at("2.1 1.1 x:{1.1}"))
	store.Write(nil, api.Store{})
	is(t, "Read of no reader", store.Read(nil), "")
	is(t, "Read of a zero reader", store.Read(&pack.Reader{}), "")
}

func TestReadOfOneThatFailed(t *testing.T) {
	for _, e := range []api.Errno{api.ErrArg, api.ErrCheck, api.ErrShort, api.ErrForm} {
		r := pack.Read(laid(at("1.1")))
		r.Fail(e)
		is(t, "Read of one that failed", store.Read(r), "")
		if r.Done() != e {
			t.Errorf("Done: %d, want %d", int(r.Done()), int(e))
		}
	}
}

func TestReadOfWhatIsNotItsNorm(t *testing.T) {
	for s := range wrong {
		if same := laid(at(s)) == laid(store.Norm(at(s))); same { // the notation's words may be out of order where the store isn't
			continue
		}
		unread(t, s, laid(at(s)), api.ErrForm)
		unread(t, s+", with others behind", laid(at(s))+"\x00\x00\x00", api.ErrForm)
		inner := api.Store{Entries: at("1.1").Entries, Fields: []api.Field{{Name: "in", Store: at(s)}, {Name: "next", Store: at("1.1")}}}
		unread(t, s+" in a field", laid(inner), api.ErrForm)
	}
	unread(t, "the example out of order", "\x02\x02\x01\x00\x00\x00\x01\x01\x00\x00\x00\x00", api.ErrForm)
	unread(t, "an empty field", "\x00\x01\x00\x00\x00\x00", api.ErrForm)
	unread(t, "an empty field in a field that is not", "\x00\x01\x00\x01x\x01\x01\x01\x00\x00\x00\x01\x00\x01y\x00\x00", api.ErrForm)
}

func TestReadOfWhatIsDeep(t *testing.T) {
	for n := range 9 {
		s := deep(n, at("1.1 2.1"))
		reads(t, laid(s), s)
	}
	for _, n := range []int{9, 10, 16, 17, 100, 5000} {
		unread(t, "one within many fields", laid(deep(n, at("1.1"))), api.ErrForm)
		unread(t, "nothing within many fields", laid(deep(n, at(""))), api.ErrForm)
	}
	level := laid(deep(1, at("")))
	level = level[:len(level)-2]
	for _, n := range []int{10, 11, 20, 1 << 16} {
		unread(t, "fields without an end", strings.Repeat(level, n), api.ErrForm)
	}
	unread(t, "one that has a field within 9, and other things", laid(deep(8, at("1.1 x:{2.1}"))), api.ErrForm)
	wide := api.Store{Fields: append(deep(9, at("1.1")).Fields, api.Field{Kind: 7, Store: at("1.1")})}
	unread(t, "one that has a field behind the deep one", laid(wide), api.ErrForm)
}

func TestReadOfWhatIsCut(t *testing.T) {
	for _, s := range right {
		whole := laid(at(s))
		for cut := range len(whole) {
			unread(t, "a beginning of "+s, whole[:cut], api.ErrShort)
		}
	}
	whole := laid(deep(8, at("1.1(5,text,7) 2.1")))
	for cut := range len(whole) {
		unread(t, "a beginning of a deep one", whole[:cut], api.ErrShort)
	}
	unread(t, "entries out of order that end too early", laid(at("2.1 1.1"))[:11], api.ErrShort)
}

func TestReadOfWrongNumbers(t *testing.T) {
	unread(t, "a count with a needless byte", "\x80\x00\x00", api.ErrForm)
	unread(t, "a count of fields with a needless byte", "\x00\x80\x00", api.ErrForm)
	unread(t, "a count without an end", strings.Repeat("\x80", 50), api.ErrShort)
	unread(t, "a count of more than ten bytes", strings.Repeat("\x80", 10)+"\x01\x00", api.ErrForm)
	unread(t, "an actor with a needless byte", "\x01\x81\x00\x01\x00\x00\x00\x00", api.ErrForm)
	unread(t, "an N with a needless byte", "\x01\x01\x81\x00\x00\x00\x00\x00", api.ErrForm)
	unread(t, "an integer with a needless byte", "\x01\x01\x01\x82\x00\x00\x00\x00", api.ErrForm)
	unread(t, "a text's size with a needless byte", "\x01\x01\x01\x00\x80\x00\x00\x00", api.ErrForm)
	unread(t, "a T with a needless byte", "\x01\x01\x01\x00\x00\x80\x00\x00", api.ErrForm)
	unread(t, "a Kind with a needless byte", "\x00\x01\x82\x00\x00\x01\x01\x01\x00\x00\x00\x00", api.ErrForm)
	unread(t, "a name's size with a needless byte", "\x00\x01\x00\x80\x00\x01\x01\x01\x00\x00\x00\x00", api.ErrForm)
	unread(t, "a text longer than all", "\x01\x01\x01\x00\x7f\x00\x00", api.ErrShort)
	unread(t, "a name longer than all", "\x00\x01\x00\x7f\x00\x00", api.ErrShort)
	for _, n := range []uint64{3, 1 << 20, 1 << 31, 1 << 32, 1 << 62, 1 << 63, most} {
		count := string(binary.AppendUvarint(nil, n))
		unread(t, "too many entries", count+laid(at("1.1 2.1"))[1:], api.ErrShort)
		unread(t, "too many fields", "\x00"+count+laid(at("x:{1.1}"))[2:], api.ErrShort)
		unread(t, "a count alone", count, api.ErrShort)
	}
}

func TestBytesOfTheGreatest(t *testing.T) {
	text := strings.Repeat("\x00\xffé", 20000)
	s := api.Store{
		Entries: []api.Entry{{Dot: api.Dot{Actor: most, N: most}, N: math.MinInt64, S: text, T: most}},
		Fields: []api.Field{
			{Kind: math.MinInt, Name: text, Store: at("1.1(9223372036854775807,,0)")},
			{Kind: math.MaxInt, Name: "", Store: at("1.1")},
		},
	}
	if got := written(s); got != laid(s) {
		t.Error("Write of the greatest is another one")
	}
	reads(t, laid(s), s)
}

// taken reads a store by the library's means: how many bytes it has, 0 if they are none of a store.
func taken(s string, deep int) (api.Store, int) {
	var out api.Store
	at := 0
	right := deep <= api.MaxDeep
	number := func() uint64 {
		n, size := binary.Uvarint([]byte(s[at:]))
		right = right && size > 0 && string(binary.AppendUvarint(nil, n)) == s[at:at+max(size, 0)]
		at += max(size, 0)
		return n
	}
	signed := func() int64 {
		n := number()
		return int64(n>>1) ^ -int64(n&1)
	}
	text := func() string {
		n := number()
		if right = right && n <= uint64(len(s)-at); !right {
			return ""
		}
		at += int(n)
		return s[at-int(n) : at]
	}
	for n := number(); right && n > 0; n-- {
		e := api.Entry{Dot: api.Dot{Actor: number(), N: number()}}
		e.N, e.S, e.T = signed(), text(), number()
		out.Entries = append(out.Entries, e)
	}
	if !right {
		return out, 0
	}
	for n := number(); right && n > 0; n-- {
		f := api.Field{Kind: int(signed()), Name: text()}
		inner, size := taken(s[at:], deep+1)
		right = right && size > 0
		at += size
		f.Store = inner
		out.Fields = append(out.Fields, f)
	}
	if !right {
		return out, 0
	}
	return out, at
}

// bytesAre holds what Read says of some bytes against what they are.
func bytesAre(t *testing.T, s string) bool {
	t.Helper()
	want, size := taken(s, 0)
	r := pack.Read(s)
	got := store.Read(r)
	if size > 0 && strict(want, 0) {
		if told(got) != told(want) || r.Left() != len(s)-size {
			t.Errorf("Read(%x): %s, want %s", s, told(got), told(want))
		}
		if written(got) != s[:size] {
			t.Errorf("Write of what Read(%x) told: %x", s, written(got))
		}
		return true
	}
	e := r.Done()
	if got.Entries != nil || got.Fields != nil || r.Left() != 0 || e != api.ErrForm && e != api.ErrShort || size > 0 && e != api.ErrForm {
		t.Errorf("Read(%x): %s, %d", s, told(got), int(e))
	}
	return false
}

func TestAllBytes(t *testing.T) {
	found := 0
	all := []string{""}
	for i := 0; i < len(all); i++ {
		if bytesAre(t, all[i]) {
			found++
		}
		if len(all[i]) < 11 {
			all = append(all, all[i]+"\x00", all[i]+"\x01", all[i]+"\x02")
		}
	}
	if found < 1000 {
		t.Errorf("stores were read of %d of %d texts", found, len(all))
	}
}

func TestBytesWithOneTurned(t *testing.T) {
	for _, s := range []string{right[8], right[9], "1.1(-5,text,7) x:{1.1 y:{1.2 2.1}} y:{2.1}"} {
		whole := laid(at(s))
		for i := range len(whole) {
			for b := range 256 {
				bytesAre(t, whole[:i]+string([]byte{byte(b)})+whole[i+1:])
			}
			bytesAre(t, whole[:i]+whole[i+1:])
			bytesAre(t, whole[:i]+"\x01"+whole[i:])
		}
	}
}

func FuzzRead(f *testing.F) {
	for _, s := range right {
		f.Add(laid(at(s)))
	}
	f.Add(laid(deep(9, at("1.1"))))
	f.Fuzz(func(t *testing.T, s string) { bytesAre(t, s) })
}
