package http_test

import (
	"fmt"
	"math"
	"math/rand"
	"strings"
	"testing"

	"murmuration/api"
	"murmuration/http"
)

// P21.4

// outcome is what comes out of a stream: its calls, the status behind them, and how many bytes wait.
type outcome struct {
	calls  []string
	status int
	waits  int
}

// drain takes up what there is.
func (o *outcome) drain(s *http.Stream) {
	for {
		c, x := s.Next()
		if o.status, o.waits = x, s.Waits(); x != 0 {
			return
		}
		o.calls = append(o.calls, shown(c))
	}
}

// cut feeds a text in pieces of so many bytes, and asks for calls where that is said.
func cut(text string, size func() int, ask func() bool) outcome {
	s, o := &http.Stream{}, outcome{}
	for text != "" {
		n := min(len(text), size())
		s.Feed(text[:n])
		text = text[n:]
		if ask() {
			o.drain(s)
		}
	}
	o.drain(s)
	return o
}

func always() bool { return true }
func never() bool  { return false }
func one() int     { return 1 }

func TestHoweverBytesAreCut(t *testing.T) {
	draw := rand.New(rand.NewSource(51))
	said := map[int]int{}
	for range 6000 {
		text := drawnText(draw)
		most := 1 + draw.Intn(60)
		some := func() int { return draw.Intn(most) + 1 }
		maybe := func() bool { return draw.Intn(3) == 0 }
		whole := cut(text, func() int { return 65536 }, never)
		said[whole.status]++
		for _, o := range []outcome{cut(text, some, maybe), cut(text, some, always), cut(text, some, never), cut(text, one, maybe)} {
			is(t, fmt.Sprintf("%.300q in pieces", text), o, whole)
		}
	}
	if said[-1] < 500 || said[400] < 500 || said[413] < 10 || said[414] < 10 {
		t.Errorf("statuses: %v", said)
	}
}

// What can be told of the bytes there are is told at once: behind each byte.
func TestBehindEachByte(t *testing.T) {
	draw := rand.New(rand.NewSource(52))
	for range 3000 {
		text := drawnText(draw)
		if len(text) > 3000 {
			continue
		}
		s, left := &http.Stream{}, ""
		for i := range len(text) {
			s.Feed(text[i : i+1])
			left += text[i : i+1]
			want, size, status := plainNext(left)
			next(t, fmt.Sprintf("the last %d bytes of the first %d of %.600q", len(left), i+1, text), s, want, status)
			if left = left[size:]; status > 0 {
				break
			}
			is(t, "Waits", s.Waits(), len(left))
		}
	}
}

func TestLimitsBehindEachByte(t *testing.T) {
	for _, c := range []struct {
		text   string
		status int
		at     int // behind how many bytes it is said
	}{
		{strings.Repeat("G", 3000), 414, 2050},
		{"GET /" + strings.Repeat("a", 2034) + "b HTTP/1.1\r\n", 414, 2050},
		{"GET /" + strings.Repeat("a", 2033) + "b HTTP/1.0\r\n\r\n", 400, 2050},
		{"GET / HTTP/1.1\r\n" + strings.Repeat("G", 9000), 400, 16 + 8194},
		{"GET / HTTP/1.1\r\na:" + strings.Repeat("a", 8189) + "\r\n\r\n", 400, 16 + 8194},
		{"GET / HTTP/1.1\r\na=" + strings.Repeat("a", 8188) + "\r\n\r\n", 400, 16 + 8194},
		{"GET / HTTP/1.1\r\na:" + strings.Repeat("a", 8188) + "\r\n\r\n", 0, 16 + 8194},
		{"GET / HTTP/1.1\r\na\r\n\r\n", 400, 21},
		{bare("content-length: 30001"), 413, len(bare("content-length: 30001"))},
		{bare("content-length: 9") + "123456789", 0, len(bare("content-length: 9")) + 9},
	} {
		s := &http.Stream{}
		for i := range c.at - 1 {
			s.Feed(c.text[i : i+1])
			if _, x := s.Next(); x != -1 {
				t.Fatalf("%.60q: %d behind %d bytes", c.text, x, i+1)
			}
		}
		is(t, "Waits", s.Waits(), c.at-1)
		s.Feed(c.text[c.at-1 : c.at])
		_, x := s.Next()
		is(t, fmt.Sprintf("%.60q", c.text), x, c.status)
	}
}

func TestStreamsWithMoreThanThereIsRoomFor(t *testing.T) {
	draw := rand.New(rand.NewSource(53))
	for range 60 {
		text, want := "", 0
		for len(text) < 200000 {
			text += asked("PUT /a HTTP/1.1", "content-length: 9000") + drawnBytes(draw, 9000)
			want++
		}
		s, calls, most := &http.Stream{}, 0, 0
		for text != "" {
			n := s.Feed(text[:min(len(text), 1+draw.Intn(100000))])
			text = text[n:]
			most = max(most, s.Waits())
			for draw.Intn(3) > 0 || n == 0 {
				c, x := s.Next()
				if x != 0 {
					is(t, "status", x, -1)
					break
				}
				n = 1
				calls++
				is(t, "body", len(c.Body), 9000)
			}
		}
		o := outcome{}
		o.drain(s)
		is(t, "calls", fmt.Sprint(calls+len(o.calls), o.status, o.waits, most <= 65536), fmt.Sprint(want, -1, 0, true))
	}
}

func TestWhatIsEncodedIsDecoded(t *testing.T) {
	draw := rand.New(rand.NewSource(54))
	said := map[string]string{}
	for range 40000 {
		s := drawnBytes(draw, draw.Intn(12))
		e := http.Encode(s)
		decodes(t, e, s)
		if other, there := said[e]; there && other != s {
			t.Fatalf("%q is said of %q, and %q", e, s, other)
		}
		said[e] = s
		tells(t, asked("GET /"+e+"?"+e+"="+e+"&x HTTP/1.1"), api.Call{Method: "GET", Path: path(s), Query: pairs(s, s, "x", "")})
	}
	decodes(t, http.Encode(allBytes()), allBytes())
}

// Wild bytes do no harm: a stream stays within its room, and says one of its statuses; where it is broken, it stays so.
func TestWildBytes(t *testing.T) {
	draw := rand.New(rand.NewSource(55))
	statuses := map[int]bool{0: true, -1: true, 400: true, 413: true, 414: true}
	for range 20000 {
		s := &http.Stream{}
		for range 1 + draw.Intn(5) {
			s.Feed(drawnOf(draw, 6, drawnBytes(draw, draw.Intn(50)), "\r\n", "GET / HTTP/1.1", "\r\n\r\n", ":", "content-length: 3", strings.Repeat("x", draw.Intn(3000))))
			c, x := s.Next()
			if !statuses[x] || s.Waits() > 65536 || x != 0 && shown(c) != shown(api.Call{}) {
				t.Fatalf("Next: %s %d, %d wait", shown(c), x, s.Waits())
			}
			if x > 0 {
				isBroken(t, "wild bytes", s, x)
			}
		}
		wild := drawnBytes(draw, draw.Intn(100))
		asPlainRead(t, wild)
		asPlainRead(t, "HTTP/1.1 "+wild)
		asPlainRead(t, "HTTP/1.1 200 OK\r\n"+wild+"\r\ncontent-length: 1\r\n\r\n"+wild)
		http.Decode(wild)
	}
}

// R4
func TestTheSameCallsHaveTheSameAnswers(t *testing.T) {
	text := asked("PUT /a%2fb?c=d&e HTTP/1.1", "F: g", "content-length: 2") + "hi" + bare() + "rest"
	first := cut(text, one, always)
	for range 50 {
		is(t, "a stream", cut(text, one, always), first)
		is(t, "a stream fed at once", cut(text, func() int { return 65536 }, never), first)
	}
	a := answer(300, "b", "x", "y")
	w := http.Write(a)
	for range 50 {
		is(t, "Write", http.Write(a), w)
		reads(t, w, a, 0)
		decodes(t, http.Encode(w), w)
	}
}

// R5
func TestGreatArguments(t *testing.T) {
	s := &http.Stream{}
	is(t, "Feed", s.Feed(strings.Repeat("G", 1<<24)), 65536)
	is(t, "Feed again", s.Feed(strings.Repeat("G", 1<<24)), 0)
	next(t, "a great line", s, api.Call{}, 414)
	great := strings.Repeat("\xff/", 1<<20)
	e := http.Encode(great)
	is(t, "Encode", len(e), 6<<20)
	d, ok := http.Decode(e)
	is(t, "Decode", fmt.Sprint(d == great, ok), "true true")
	undecoded(t, e+"%")
	a := answer(200, great, great, great)
	w := http.Write(a)
	got, n, ok := http.Read(w + great)
	is(t, "Read", fmt.Sprint(shownAnswer(got) == shownAnswer(a), n == len(w), ok), "true true true")
	unread(t, great)
	unread(t, "HTTP/1.1 200 OK\r\n"+strings.Repeat("a: b\r\n", 1<<20))
	many := answer(200, "")
	for range 1 << 17 {
		many.Headers = append(many.Headers, api.Pair{Key: "a", Value: "b"})
	}
	reads(t, http.Write(many), many, 0)
	_, there := http.Find(many.Headers, "b")
	is(t, "Find", there, false)
	writes(t, answer(math.MinInt64, ""), "HTTP/1.1 -9223372036854775808 Other\r\ncontent-length: 0\r\n\r\n")
	writes(t, answer(math.MaxInt64, ""), "HTTP/1.1 9223372036854775807 Other\r\ncontent-length: 0\r\n\r\n")
	lines := strings.Repeat("a:\r\n", 2048)
	c, x := stream(t, "GET /"+strings.Repeat("/", 2034)+" HTTP/1.1\r\n"+lines+"\r\n").Next()
	is(t, "many parts", fmt.Sprint(len(c.Path), len(c.Headers), x), "2035 2048 0")
	c, x = stream(t, asked("GET /?"+strings.Repeat("&", 2033)+" HTTP/1.1")).Next()
	is(t, "many pairs", fmt.Sprint(len(c.Path), len(c.Query), x), "1 2034 0")
}
