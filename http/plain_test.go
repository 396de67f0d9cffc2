package http_test

import (
	"fmt"
	"math/rand"
	"regexp"
	"strconv"
	"strings"
	"testing"

	"murmuration/api"
	"murmuration/http"
)

// The chapter's words said once more, by patterns, over a text that is whole.

var (
	wholeLine   = regexp.MustCompile(`^([A-Z]{1,16}) /([!-~]*) HTTP/1\.1$`)
	wholeHeader = regexp.MustCompile(`^([A-Za-z0-9-]{1,64}):[ \t]*((?:[!-~](?:[ -~\t]*[!-~])?)?)[ \t]*$`)
	wholeLength = regexp.MustCompile(`^[0-9]{1,9}$`)
	onePercent  = regexp.MustCompile(`%[0-9A-Fa-f]{2}`)
	onePair     = regexp.MustCompile(`&([^&=]*)=?([^&]*)`)
	wholeAnswer = regexp.MustCompile(`^HTTP/1\.1 ([1-9][0-9]{2}) ([^\r\n]*)\r\n((?:[^:\r\n]*: [^\r\n]*\r\n)*?)content-length: (0|[1-9][0-9]*)\r\n\r\n`)
	oneHeader   = regexp.MustCompile(`([^:\r\n]*): ([^\r\n]*)\r\n`)
)

func plainDecode(s string) (string, bool) {
	right := !strings.Contains(onePercent.ReplaceAllString(s, ""), "%")
	return onePercent.ReplaceAllStringFunc(s, func(x string) string {
		n, _ := strconv.ParseUint(x[1:], 16, 8)
		return string([]byte{byte(n)})
	}), right
}

// plainLine is the first line that ends within so many bytes.
func plainLine(s string, most int) (string, bool) {
	for i := 1; i < min(len(s), most); i++ {
		if s[i-1] == '\r' && s[i] == '\n' {
			return s[:i-1], true
		}
	}
	return "", false
}

// plainNext is the call with which a text begins, how many bytes it has, and the status.
func plainNext(s string) (api.Call, int, int) {
	line, there := plainLine(s, 2050)
	if !there && len(s) >= 2050 {
		return api.Call{}, 0, 414
	}
	if !there {
		return api.Call{}, 0, -1
	}
	c, right := plainCall(line)
	if !right {
		return api.Call{}, 0, 400
	}
	at := len(line) + 2
	lines, status := plainHead(s[at:])
	if status != 0 {
		return api.Call{}, 0, status
	}
	size := 0
	for _, line := range lines {
		at += len(line) + 2
		if status := plainHeader(&c, &size, line); status != 0 {
			return api.Call{}, 0, status
		}
	}
	at += 2
	if len(s)-at < size {
		return api.Call{}, 0, -1
	}
	c.Body = s[at : at+size]
	return c, at + size, 0
}

func plainCall(line string) (api.Call, bool) {
	m := wholeLine.FindStringSubmatch(line)
	if m == nil {
		return api.Call{}, false
	}
	if _, right := plainDecode(m[2]); !right {
		return api.Call{}, false
	}
	c := api.Call{Method: m[1]}
	first, second, _ := strings.Cut(m[2], "?")
	for _, part := range strings.Split(first, "/") {
		part, _ = plainDecode(part)
		c.Path = append(c.Path, part)
	}
	for _, m := range onePair.FindAllStringSubmatch("&"+second, -1) {
		key, _ := plainDecode(m[1])
		value, _ := plainDecode(m[2])
		if second != "" {
			c.Query = append(c.Query, api.Pair{Key: key, Value: value})
		}
	}
	return c, true
}

// plainHead are the lines ahead of the empty one, which ends within 8194 bytes.
func plainHead(s string) ([]string, int) {
	var lines []string
	for at := 0; ; {
		line, there := plainLine(s[at:], 8194-at)
		switch {
		case there && line == "":
			return lines, 0
		case there:
			lines = append(lines, line)
			at += len(line) + 2
		case len(s) >= 8194:
			return nil, 400
		default:
			return nil, -1
		}
	}
}

func plainHeader(c *api.Call, size *int, line string) int {
	m := wholeHeader.FindStringSubmatch(line)
	if m == nil {
		return 400
	}
	name := strings.ToLower(m[1])
	if name == "transfer-encoding" {
		return 400
	}
	if name == "content-length" {
		for _, h := range c.Headers {
			if h.Key == name {
				return 400
			}
		}
		if !wholeLength.MatchString(m[2]) {
			return 400
		}
		if *size, _ = strconv.Atoi(m[2]); *size > 30000 {
			return 413
		}
	}
	c.Headers = append(c.Headers, api.Pair{Key: name, Value: m[2]})
	return 0
}

func plainRead(s string) (api.Answer, int, bool) {
	m := wholeAnswer.FindStringSubmatch(s)
	if m == nil {
		return api.Answer{}, 0, false
	}
	var a api.Answer
	a.Status, _ = strconv.Atoi(m[1])
	size, err := strconv.Atoi(m[4])
	if m[2] != http.Reason(a.Status) || err != nil || size > len(s)-len(m[0]) {
		return api.Answer{}, 0, false
	}
	for _, h := range oneHeader.FindAllStringSubmatch(m[3], -1) {
		if h[1] == "content-length" {
			return api.Answer{}, 0, false
		}
		a.Headers = append(a.Headers, api.Pair{Key: h[1], Value: h[2]})
	}
	a.Body = s[len(m[0]) : len(m[0])+size]
	return a, len(m[0]) + size, true
}

// asPlain says that all calls come out of a text as the chapter's words have it; it tells the last status.
func asPlain(t *testing.T, text string) int {
	t.Helper()
	s := stream(t, text)
	for left := text; ; {
		c, size, status := plainNext(left)
		left = left[size:]
		got, x := s.Next()
		if x != status || shown(got) != shown(c) {
			t.Fatalf("Next of %.300q: %.300s %d, want %.300s %d", text, shown(got), x, shown(c), status)
		}
		if status > 0 {
			left = ""
		}
		if s.Waits() != len(left) {
			t.Fatalf("Waits of %.300q: %d, want %d", text, s.Waits(), len(left))
		}
		if status != 0 {
			return status
		}
	}
}

func asPlainRead(t *testing.T, s string) bool {
	t.Helper()
	a, n, ok := http.Read(s)
	want, size, right := plainRead(s)
	if n != size || ok != right || shownAnswer(a) != shownAnswer(want) {
		t.Fatalf("Read of %.300q: %.300s %d %v, want %.300s %d %v", s, shownAnswer(a), n, ok, shownAnswer(want), size, right)
	}
	return ok
}

// eachText hands on all texts of so many of these pieces at most.
func eachText(most int, pieces []string, take func(s string)) {
	take("")
	if most == 0 {
		return
	}
	for _, piece := range pieces {
		eachText(most-1, pieces, func(s string) { take(piece + s) })
	}
}

func TestAllShortRequests(t *testing.T) {
	for _, c := range []struct {
		ahead, behind string
		most          int
		pieces        []string
	}{
		{"", "\r\n\r\n", 6, []string{"GET", "g", " ", "/", "HTTP/1.1", "\r", "\n"}},
		{"GET /", " HTTP/1.1\r\n\r\n", 6, []string{"/", "?", "&", "=", "%", "4", "a", "%2f"}},
		{"GET / HTTP/1.1", "", 6, []string{"\r\n", "\r", "\n", "a", ":", " ", "\t", "\x80"}},
		{"GET / HTTP/1.1\r\n", "\r\n\r\nbbb", 6, []string{"\r\n", "Content-Length", ":", " ", "2", "30001", "x"}},
		{"GET / HTTP/1.1\r\ncontent-length: 1\r\n", "\r\n\r\nbbb", 5, []string{"\r\n", "transfer-encoding", "content-length", ":1", ":", "a"}},
		{"GET / HTTP/1.1\r\ncontent-length:", "\r\n\r\n" + bare(), 6, []string{" ", "\t", "0", "3", "9", "+", "."}},
	} {
		said := map[int]int{}
		eachText(c.most, c.pieces, func(s string) { said[asPlain(t, c.ahead+s+c.behind)]++ })
		if said[-1] == 0 || said[400] == 0 {
			t.Errorf("%q: %v", c.ahead, said)
		}
	}
}

func TestAllShortAnswers(t *testing.T) {
	for _, c := range []struct {
		ahead, behind string
		most          int
		pieces        []string
	}{
		{"", "\r\ncontent-length: 0\r\n\r\n", 6, []string{"HTTP/1.1", " ", "204", "2", "No Content", "Other", "\r\n"}},
		{"HTTP/1.1 200 OK\r\n", "\r\n\r\nbbb", 6, []string{"content-length", ": ", ":", " ", "\r\n", "2", "a"}},
		{"HTTP/1.1 200 OK\r\n", "content-length: 1\r\n\r\nbbb", 6, []string{"\r\n", "\r", "\n", "a", ": ", "content-length", "\xff"}},
		{"HTTP/1.1 200 OK\r\ncontent-length: ", "\r\n\r\nbbb", 6, []string{"0", "1", "3", "-", "+", " ", "\r\n"}},
	} {
		said := map[bool]int{}
		eachText(c.most, c.pieces, func(s string) { said[asPlainRead(t, c.ahead+s+c.behind)]++ })
		if said[true] == 0 || said[false] == 0 {
			t.Errorf("%q: %v", c.ahead, said)
		}
	}
}

func TestAllShortTextsAreDecoded(t *testing.T) {
	eachText(7, []string{"%", "4", "f", "A", "g", "\xff"}, func(s string) {
		got, ok := http.Decode(s)
		want, right := plainDecode(s)
		if !right {
			want = ""
		}
		if got != want || ok != right {
			t.Fatalf("Decode of %q: %q %v, want %q %v", s, got, ok, want, right)
		}
	})
}

// Drawn texts

func drawnOf(draw *rand.Rand, most int, some ...string) string {
	var b strings.Builder
	for range draw.Intn(most + 1) {
		b.WriteString(some[draw.Intn(len(some))])
	}
	return b.String()
}

func drawnBytes(draw *rand.Rand, size int) string {
	b := make([]byte, size)
	draw.Read(b)
	return string(b)
}

func drawnLine(draw *rand.Rand) string {
	method := []string{"GET", "PUT", "DELETE", "X", "ABCDEFGHIJKLMNOP"}[draw.Intn(5)]
	target := "/" + drawnOf(draw, 8, "a", "b", "/", "%20", "%2f", "%fF", "~", "=", "&")
	if draw.Intn(2) == 0 {
		target += "?" + drawnOf(draw, 8, "r", "2", "=", "&", "%26", "%3D", "?", "/")
	}
	return method + " " + target + " HTTP/1.1"
}

func drawnHeader(draw *rand.Rand) string {
	return "N" + drawnOf(draw, 5, "a", "B", "-", "9") + ":" + drawnOf(draw, 6, " ", "\t", "v", ":", "W", "~", "%")
}

// drawnRequest is one that is right, all but seldom within its limits.
func drawnRequest(draw *rand.Rand) string {
	lines := []string{drawnLine(draw)}
	for range draw.Intn(4) {
		lines = append(lines, drawnHeader(draw))
	}
	body := ""
	switch draw.Intn(40) {
	case 0:
		body = drawnBytes(draw, 29999+draw.Intn(3))
	case 1:
		lines[0] = lines[0][:len(lines[0])-9] + "?" + strings.Repeat("l", 2046+draw.Intn(5)-len(lines[0])) + " HTTP/1.1"
	case 2:
		size := len(lined(lines[1:]...))
		lines = append(lines, "long:"+strings.Repeat("h", 8190+draw.Intn(5)-size-7))
	default:
		body = drawnOf(draw, 5, "b", "\r\n", "\x00", "\xff", "G", "HTTP/1.1 ")
	}
	if body != "" || draw.Intn(3) == 0 {
		at := 1 + draw.Intn(len(lines))
		name := []string{"content-length:", "Content-Length: ", "CONTENT-LENGTH:\t"}[draw.Intn(3)]
		lines = append(lines[:at:at], append([]string{name + fmt.Sprint(len(body))}, lines[at:]...)...)
	}
	return asked(lines...) + body
}

// spoilt is a text of which some places are other ones.
func spoilt(draw *rand.Rand, s string) string {
	some := []string{"\r", "\n", "\r\n", " ", ":", "%", "?", "a", "G", "1", "\x00", "\xff", "\x7f", "\t", "content-length: 1\r\n", "transfer-encoding: x\r\n", "30001", "/", "-"}
	for range 1 + draw.Intn(2) {
		from := draw.Intn(len(s) + 1)
		to := min(len(s), from+draw.Intn(3))
		s = s[:from] + drawnOf(draw, 1, some...) + s[to:]
	}
	return s
}

// drawnText are some requests in a row; the last one may be spoilt.
func drawnText(draw *rand.Rand) string {
	text := ""
	for range draw.Intn(4) {
		if one := drawnRequest(draw); len(text)+len(one) < 30000 {
			text += one
		}
	}
	last := drawnRequest(draw)
	if draw.Intn(2) == 0 {
		last = spoilt(draw, last)
	}
	return (text + last)[:min(65536, len(text+last))]
}

func drawnAnswer(draw *rand.Rand) api.Answer {
	a := api.Answer{Status: []int{200, 204, 300, 400, 404, 405, 409, 412, 413, 414, 503, 100, 999, 599}[draw.Intn(14)]}
	for range draw.Intn(4) {
		a.Headers = append(a.Headers, api.Pair{Key: drawnOf(draw, 3, "x", "A", " ", "-", "\xff", "content-length "), Value: drawnOf(draw, 4, "v", ":", " ", "\x00", "\xff", "W")})
	}
	a.Body = drawnOf(draw, 5, "b", "\r\n", "HTTP/1.1 ", "\x00", "\xff", "content-length: 1\r\n")
	return a
}

func TestDrawnRequests(t *testing.T) {
	draw := rand.New(rand.NewSource(41))
	said := map[int]int{}
	for range 30000 {
		said[asPlain(t, drawnText(draw))]++
	}
	for _, status := range []int{-1, 400, 413, 414} {
		if said[status] < 50 {
			t.Errorf("%d: %d times alone", status, said[status])
		}
	}
}

func TestDrawnAnswers(t *testing.T) {
	draw := rand.New(rand.NewSource(42))
	for range 60000 {
		a := drawnAnswer(draw)
		w := http.Write(a)
		behind := drawnOf(draw, 3, "b", "\r\n", "\x00")
		reads(t, w+behind, a, len(behind))
		asPlainRead(t, w+behind)
		asPlainRead(t, spoilt(draw, w)+behind)
	}
}
