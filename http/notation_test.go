package http_test

import (
	"fmt"
	"strings"
	"testing"

	"murmuration/api"
	"murmuration/http"
)

func is(t *testing.T, what string, got, want any) {
	t.Helper()
	if g, w := fmt.Sprint(got), fmt.Sprint(want); g != w {
		t.Errorf("%s: %.600s, want %.600s", what, g, w)
	}
}

// Values

// pairs are those of keys and values by turns.
func pairs(l ...string) []api.Pair {
	var all []api.Pair
	for i := 0; i < len(l); i += 2 {
		all = append(all, api.Pair{Key: l[i], Value: l[i+1]})
	}
	return all
}

func path(parts ...string) []string { return parts }

// get is the call of a GET without a query, headers and a body.
func get(parts ...string) api.Call { return api.Call{Method: "GET", Path: parts} }

// allBytes is a text with each byte there is.
func allBytes() string {
	var b []byte
	for c := range 256 {
		b = append(b, byte(c))
	}
	return string(b)
}

// lined are lines, each with its end.
func lined(lines ...string) string { return strings.Join(append(lines, ""), "\r\n") }

// asked is a request of a first line and header lines, without a body.
func asked(lines ...string) string { return lined(append(lines, "")...) }

// bare is a GET with these header lines.
func bare(lines ...string) string { return asked(append([]string{"GET / HTTP/1.1"}, lines...)...) }

// shown is a call just as it stands, but that a nil list is an empty one.
func shown(c api.Call) string {
	return fmt.Sprintf("%q %q %q %q %q", c.Method, c.Path, c.Query, c.Headers, c.Body)
}

func shownAnswer(a api.Answer) string {
	return fmt.Sprintf("%d %q %q", a.Status, a.Headers, a.Body)
}

// Calls

// stream is a new one that keeps these bytes.
func stream(t *testing.T, text string) *http.Stream {
	t.Helper()
	s := &http.Stream{}
	if n := s.Feed(text); n != len(text) || s.Waits() != n {
		t.Fatalf("Feed of %d bytes: %d, and %d wait", len(text), n, s.Waits())
	}
	return s
}

// next says what a stream's Next must tell.
func next(t *testing.T, what string, s *http.Stream, want api.Call, status int) {
	t.Helper()
	c, x := s.Next()
	is(t, "Next of "+what, fmt.Sprint(shown(c), x), fmt.Sprint(shown(want), status))
}

// tells says that just this call comes out of these bytes, and that nothing waits behind it.
func tells(t *testing.T, text string, want api.Call) {
	t.Helper()
	what := fmt.Sprintf("%.200q", text)
	s := stream(t, text)
	next(t, what, s, want, 0)
	is(t, "Waits behind "+what, s.Waits(), 0)
	next(t, "what is behind "+what, s, api.Call{}, -1)
}

// waits says that there is no call yet, and that no byte is gone.
func waits(t *testing.T, text string) {
	t.Helper()
	s := stream(t, text)
	for range 2 {
		next(t, fmt.Sprintf("%.200q", text), s, api.Call{}, -1)
		is(t, fmt.Sprintf("Waits behind %.200q", text), s.Waits(), len(text))
	}
}

// breaks says that the stream is broken by these bytes, for ever.
func breaks(t *testing.T, text string, status int) {
	t.Helper()
	s := stream(t, text)
	next(t, fmt.Sprintf("%.200q", text), s, api.Call{}, status)
	isBroken(t, fmt.Sprintf("%.200q", text), s, status)
}

func isBroken(t *testing.T, what string, s *http.Stream, status int) {
	t.Helper()
	for range 3 {
		is(t, "Waits behind "+what, s.Waits(), 0)
		is(t, "Feed behind "+what, s.Feed(bare()), 0)
		next(t, what+" again", s, api.Call{}, status)
	}
}

func decodes(t *testing.T, s, want string) {
	t.Helper()
	got, ok := http.Decode(s)
	is(t, fmt.Sprintf("Decode of %.200q", s), fmt.Sprintf("%q %v", got, ok), fmt.Sprintf("%q true", want))
}

func undecoded(t *testing.T, s string) {
	t.Helper()
	got, ok := http.Decode(s)
	is(t, fmt.Sprintf("Decode of %.200q", s), fmt.Sprintf("%q %v", got, ok), `"" false`)
}

// reads says that Read tells that answer of bytes, of which so many are behind it.
func reads(t *testing.T, s string, want api.Answer, behind int) {
	t.Helper()
	a, n, ok := http.Read(s)
	is(t, fmt.Sprintf("Read of %.200q", s), fmt.Sprint(shownAnswer(a), n, ok), fmt.Sprint(shownAnswer(want), len(s)-behind, true))
}

func unread(t *testing.T, s string) {
	t.Helper()
	a, n, ok := http.Read(s)
	is(t, fmt.Sprintf("Read of %.200q", s), fmt.Sprint(shownAnswer(a), n, ok), fmt.Sprint(shownAnswer(api.Answer{}), 0, false))
}
