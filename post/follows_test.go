package post_test

import (
	"math/rand"
	"testing"

	"murmuration/api"
	"murmuration/post"
)

// P19.2

func TestWhatIsWrittenIsRead(t *testing.T) {
	draw := rand.New(rand.NewSource(23))
	said := map[string]string{}
	for range 30000 {
		n := drawnRight(draw)
		s := written(t, n)
		got, e := post.Read(s)
		if e != api.OK || shown(got) != shown(n) || !post.Right(got) || !post.Same(got, n) {
			t.Fatalf("Read of %s: %s, %d", shown(n), shown(got), int(e))
		}
		if again := written(t, got); again != s {
			t.Fatalf("Write of %s: %x, then %x", shown(n), s, again)
		}
		if other, there := said[s]; there && other != shown(n) {
			t.Fatalf("%x says %s, and %s", s, other, shown(n))
		}
		said[s] = shown(n)
	}
	if len(said) < 20000 {
		t.Errorf("%d notes alone", len(said))
	}
}

// Notes that are unlike have other bytes: each change of what may be changed is one.
func TestOtherNotesHaveOtherBytes(t *testing.T) {
	bytes := map[string]string{}
	for _, n := range rightNotes() {
		l := []api.Note{n}
		for _, c := range goodChanges() {
			l = append(l, c.done(n))
		}
		for _, x := range l {
			if s, e := post.Write(x); e == api.OK {
				bytes[shown(x)] = s
			}
		}
	}
	back := map[string]string{}
	for note, s := range bytes {
		if other, there := back[s]; there {
			t.Errorf("%x says %s, and %s", s, note, other)
		}
		back[s] = note
	}
	if len(bytes) < 80 {
		t.Errorf("%d notes alone", len(bytes))
	}
}

// turned says that no frame with one byte turned is read, from the body's first byte on.
func turned(t *testing.T, s string, head, step int) {
	t.Helper()
	b := []byte(s)
	for i := head; i < len(b); i++ {
		for x := 1; x < 256; x += step {
			b[i] ^= byte(x)
			unread(t, "a byte turned", string(b), api.ErrCheck)
			b[i] ^= byte(x)
		}
	}
}

func TestFramesWithAByteTurned(t *testing.T) {
	for _, n := range shortest() {
		turned(t, written(t, n), 1, 1)
	}
	for _, n := range fullest() {
		s := written(t, n)
		turned(t, s, len(s)-4-len(plainBody(n)), 23)
	}
}

// R4
func TestTheSameCallsHaveTheSameAnswers(t *testing.T) {
	for _, n := range fullest() {
		s := written(t, n)
		for range 20 {
			is(t, "Write", written(t, n) == s, true)
			reads(t, "again", s, n)
			is(t, "Right", post.Right(n), true)
		}
	}
}
