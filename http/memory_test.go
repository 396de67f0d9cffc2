package http_test

import (
	"testing"

	"murmuration/api"
	"murmuration/http"
)

// R3

// scribble is what an owner may do to pairs: all that they reach is written over.
func scribble(l []api.Pair) {
	l = l[:cap(l)]
	for i := range l {
		l[i] = api.Pair{Key: "scribbled", Value: "scribbled"}
	}
}

func scribbleCall(c api.Call) {
	scribble(c.Query)
	scribble(c.Headers)
	l := c.Path[:cap(c.Path)]
	for i := range l {
		l[i] = "scribbled"
	}
}

// roomy are pairs that have room behind them in which something may be written by mistake.
func roomy(l []api.Pair) []api.Pair {
	return append(l[:len(l):len(l)], pairs("behind", "behind", "behind", "behind")...)[:len(l)]
}

func TestCallsAreTheOwnersOwn(t *testing.T) {
	text := asked("PUT /a/b?c=d&e HTTP/1.1", "f: g", "content-length: 2") + "hi"
	want := api.Call{Method: "PUT", Path: path("a", "b"), Query: pairs("c", "d", "e", ""), Headers: pairs("f", "g", "content-length", "2"), Body: "hi"}
	s := stream(t, text+text+text)
	a, _ := s.Next()
	b, _ := s.Next()
	scribbleCall(a)
	is(t, "another call", shown(b), shown(want))
	c, _ := s.Next()
	scribbleCall(b)
	is(t, "the third one", shown(c), shown(want))
	for _, part := range []string{text[:len(text)-1], text[len(text)-1:]} {
		s.Feed(part)
		scribbleCall(c)
		if part == text[:len(text)-1] {
			next(t, "a call on its way", s, api.Call{}, -1)
		} else {
			next(t, "a call on its way", s, want, 0)
		}
	}
}

// What is told doesn't change, whatever is fed behind it.
func TestCallsStay(t *testing.T) {
	s := stream(t, asked("PUT /first?first=first HTTP/1.1", "first: first", "content-length: 5")+"first")
	a, _ := s.Next()
	was := shown(a)
	for range 50 {
		s.Feed(asked("GET /other?other=other HTTP/1.1", "other: other", "content-length: 5") + "other")
		s.Next()
		is(t, "the first call", shown(a), was)
	}
	s.Feed(lined("none"))
	next(t, "none", s, api.Call{}, 400)
	is(t, "the first call", shown(a), was)
}

// No two lists of one answer share any memory.
func TestListsOfACallLieApart(t *testing.T) {
	text := asked("GET /a?b=c HTTP/1.1", "d: e")
	for _, change := range []func(c api.Call) api.Call{
		func(c api.Call) api.Call { scribble(c.Query); c.Query = pairs("b", "c"); return c },
		func(c api.Call) api.Call { scribble(c.Headers); c.Headers = pairs("d", "e"); return c },
		func(c api.Call) api.Call { c.Query = append(c.Query, pairs("x", "y")...)[:1]; return c },
	} {
		c, _ := stream(t, text).Next()
		is(t, "a call", shown(change(c)), shown(api.Call{Method: "GET", Path: path("a"), Query: pairs("b", "c"), Headers: pairs("d", "e")}))
	}
}

func TestWhatIsHandedInStays(t *testing.T) {
	for _, a := range readable() {
		a.Headers = roomy(a.Headers)
		was := shownAnswer(a)
		w := http.Write(a)
		http.Find(a.Headers, "behind")
		is(t, "the answer", shownAnswer(a), was)
		is(t, "what is behind it", a.Headers[:cap(a.Headers)][len(a.Headers)], pairs("behind", "behind")[0])
		scribble(a.Headers)
		got, _, _ := http.Read(w)
		is(t, "what was written", shownAnswer(got), was)
	}
}

func TestAnswersAreTheOwnersOwn(t *testing.T) {
	for _, a := range readable() {
		w := http.Write(a)
		one, _, _ := http.Read(w)
		two, _, _ := http.Read(w)
		scribble(one.Headers)
		is(t, "another one", shownAnswer(two), shownAnswer(a))
		reads(t, w, a, 0)
	}
}
