package gossip_test

import (
	"math/rand"
	"strings"
	"testing"

	"murmuration/api"
	"murmuration/gossip"
	"murmuration/pack"
)

// owned are the bytes of eight owners.
func owned(node int64, v uint64) string {
	w := &pack.Writer{}
	for range 8 {
		w.Int(node).Num(v)
	}
	return w.Bytes()
}

// member are the bytes of one.
func member(node, state int64, v uint64) string {
	return (&pack.Writer{}).Int(node, state).Num(v).Bytes()
}

func reads(t *testing.T, what, s, want string) {
	t.Helper()
	r, e := gossip.Read(s)
	tells(t, what, r, want)
	is(t, what+": its error", int(e), 0)
}

func unread(t *testing.T, what, s string) {
	t.Helper()
	r, e := gossip.Read(s)
	if e != api.ErrForm || text(r) != text(api.Ring{}) {
		t.Errorf("Read of %s, %x: %s, %d", what, s, text(r), int(e))
	}
}

func TestBytes(t *testing.T) {
	for _, c := range []struct{ r, want string }{
		{"", "\x00" + strings.Repeat("\x00", 16)},
		{"1/1/1 | 1:1x8", "\x01\x02\x02\x01" + strings.Repeat("\x02\x01", 8)},
		{"7/3/0 | 7:0x8", "\x01\x0e\x06\x00" + strings.Repeat("\x0e\x00", 8)},
		{"1/1/127 2/2/128 | 1:1x4 2:300x4", "\x02\x02\x02\x7f\x04\x04\x80\x01" + strings.Repeat("\x02\x01", 4) + strings.Repeat("\x04\xac\x02", 4)},
		{"3/2/most | 1:1 2:2 3:3 4:4 5:5 6:6 7:7 0:8", "\x01\x06\x04" + strings.Repeat("\xff", 9) + "\x01" + "\x02\x01\x04\x02\x06\x03\x08\x04\x0a\x05\x0c\x06\x0e\x07\x00\x08"},
		{"| 5:mostx8", "\x00" + strings.Repeat("\x0a"+strings.Repeat("\xff", 9)+"\x01", 8)},
		{"1/1/1 2/2/2 3/3/3 4/1/4 5/2/5 6/3/6 7/1/7", "\x07\x02\x02\x01\x04\x04\x02\x06\x06\x03\x08\x02\x04\x0a\x04\x05\x0c\x06\x06\x0e\x02\x07" + strings.Repeat("\x00", 16)},
	} {
		if got := gossip.Bytes(at(c.r)); got != c.want {
			t.Errorf("Bytes(%s): %x, want %x", c.r, got, c.want)
		}
		reads(t, "Read of "+c.r, c.want, c.r)
	}
}

func TestBytesAreOfTheNorm(t *testing.T) {
	for _, c := range norms {
		if got, want := gossip.Bytes(at(c.r)), plainBytes(at(c.want)); got != want {
			t.Errorf("Bytes of %s: %x, want %x", c.name, got, want)
		}
		reads(t, c.name, gossip.Bytes(at(c.r)), c.want)
	}
}

func TestBytesOfNoNorm(t *testing.T) {
	one, two, none := member(1, 1, 1), member(2, 2, 2), owned(0, 0)
	reads(t, "a ring that may be", "\x02"+one+two+none, "1/1/1 2/2/2")
	unread(t, "nothing", "")
	unread(t, "nodes that do not rise", "\x02"+two+one+none)
	unread(t, "a node twice", "\x02"+one+one+none)
	unread(t, "a node twice, the newer behind", "\x02"+one+member(1, 2, 1)+none)
	unread(t, "a node twice, the newer ahead", "\x02"+member(1, 1, 2)+one+none)
	unread(t, "node 0", "\x01"+member(0, 1, 1)+none)
	unread(t, "node 8", "\x01"+member(8, 1, 1)+none)
	unread(t, "node -1", "\x01"+member(-1, 1, 1)+none)
	unread(t, "node 2^32 + 1", "\x01"+member(1<<32+1, 1, 1)+none)
	unread(t, "the least node", "\x01"+member(-1<<63, 1, 1)+none)
	unread(t, "the greatest node", "\x01"+member(1<<63-1, 1, 1)+none)
	unread(t, "state 0", "\x01"+member(1, 0, 1)+none)
	unread(t, "state 4", "\x01"+member(1, 4, 1)+none)
	unread(t, "state -1", "\x01"+member(1, -1, 1)+none)
	unread(t, "state 2^32 + 1", "\x01"+member(1, 1<<32+1, 1)+none)
	unread(t, "eight members", "\x08"+one+two+member(3, 1, 1)+member(4, 1, 1)+member(5, 1, 1)+member(6, 1, 1)+member(7, 1, 1)+member(8, 1, 1)+none)
	unread(t, "owner 8", "\x00"+owned(8, 1))
	unread(t, "owner -1", "\x00"+owned(-1, 1))
	unread(t, "owner 2^32 + 1", "\x00"+owned(1<<32+1, 1))
	unread(t, "an owner that may not be, the last", "\x00"+none[:14]+"\x10\x01")
	unread(t, "an owner too few", "\x00"+none[:14])
	unread(t, "an owner too many", "\x00"+none+"\x00\x00")
	unread(t, "a byte behind", "\x02"+one+two+none+"\x00")
	unread(t, "a letter behind", "\x02"+one+two+none+"x")
	unread(t, "a byte of a number behind", "\x02"+one+two+none+"\x80")
	unread(t, "two rings", "\x00"+none+"\x00"+none)
	unread(t, "a member too few", "\x02"+one+none)
	unread(t, "a member too many", "\x01"+one+two+none)
	unread(t, "members, and a number of none", "\x00"+one+none)
	unread(t, "zeros", strings.Repeat("\x00", 1000))
}

func TestBytesOfNoNumbers(t *testing.T) {
	none := owned(0, 0)
	long := strings.Repeat("\xff", 9)
	unread(t, "a count with a needless byte", "\x80\x00"+none)
	unread(t, "a count of one with a needless byte", "\x81\x00"+member(1, 1, 1)+none)
	unread(t, "a node with a needless byte", "\x01\x82\x00\x02\x01"+none)
	unread(t, "a state with a needless byte", "\x01\x02\x82\x00\x01"+none)
	unread(t, "a V with a needless byte", "\x01\x02\x02\x81\x00"+none)
	unread(t, "an owner with a needless byte", "\x00"+none[:14]+"\x82\x00\x01")
	unread(t, "an owner's V with a needless byte", "\x00"+none[:14]+"\x02\x81\x00")
	unread(t, "a last 0 with a needless byte", "\x00"+none[:15]+"\x80\x00")
	unread(t, "a V above 2^64 - 1", "\x01\x02\x02"+long+"\x02"+none)
	unread(t, "an owner's V above 2^64 - 1", "\x00"+none[:14]+"\x02"+long+"\x02")
	unread(t, "a V of more than ten bytes", "\x01\x02\x02"+strings.Repeat("\x80", 10)+"\x01"+none)
	unread(t, "a number without an end", strings.Repeat("\x80", 1000))
	for _, n := range []uint64{1, 2, 5, 6, 7, 8, 1 << 20, 1 << 31, 1 << 32, 1<<63 - 1, 1 << 63, 1<<63 + 1, most - 1, most} {
		count := (&pack.Writer{}).Num(n).Bytes()
		unread(t, "a count that is too great", count+none)
		unread(t, "a count alone", count)
	}
	unread(t, "many members that are one", "\x80\x80\x40"+strings.Repeat(member(1, 1, 1), 1<<20)+none)
}

func TestBytesThatAreCutOrGrown(t *testing.T) {
	for _, s := range []string{"", "1/1/1 | 1:1x8", "1/1/1 2/2/300 7/3/most | 1:1x4 7:mostx4"} {
		whole := gossip.Bytes(at(s))
		for cut := range len(whole) {
			unread(t, "bytes that are cut short", whole[:cut])
		}
		for b := range 256 {
			unread(t, "bytes with one behind", whole+string([]byte{byte(b)}))
		}
	}
}

// Whatever bytes come: what is read is written as just these.
func TestBytesWithSomeTurned(t *testing.T) {
	r := rand.New(rand.NewSource(22))
	read := 0
	for range 60000 {
		b := []byte(gossip.Bytes(drawn(r)))
		for range r.Intn(3) {
			b[r.Intn(len(b))] = byte(r.Intn(20))
		}
		got, e := gossip.Read(string(b))
		switch {
		case e == api.OK:
			read++
			if plainBytes(got) != string(b) || text(got) != text(plainNorm(got)) {
				t.Fatalf("Read of %x: %s", b, text(got))
			}
		case e != api.ErrForm || text(got) != text(api.Ring{}):
			t.Fatalf("Read of %x: %s, %d", b, text(got), int(e))
		}
	}
	if read < 20000 || read > 50000 {
		t.Errorf("%d of 60000 were read", read)
	}
}

func TestBytesReadAgain(t *testing.T) {
	r := rand.New(rand.NewSource(23))
	for range 20000 {
		d := drawn(r)
		got, e := gossip.Read(gossip.Bytes(d))
		if e != api.OK || text(got) != text(plainNorm(d)) {
			t.Fatalf("Read of %s: %s, %d", text(d), text(got), int(e))
		}
	}
}
