package http_test

import (
	"fmt"
	"strings"
	"testing"

	"murmuration/api"
	"murmuration/http"
)

// P21.2

func answer(status int, body string, headers ...string) api.Answer {
	return api.Answer{Status: status, Headers: pairs(headers...), Body: body}
}

func writes(t *testing.T, a api.Answer, want string) {
	t.Helper()
	is(t, "Write of "+shownAnswer(a), fmt.Sprintf("%q", http.Write(a)), fmt.Sprintf("%q", want))
}

func TestAnswersAreWritten(t *testing.T) {
	writes(t, answer(204, "", "x", "1"), "HTTP/1.1 204 No Content\r\nx: 1\r\ncontent-length: 0\r\n\r\n")
	writes(t, answer(200, "hi"), "HTTP/1.1 200 OK\r\ncontent-length: 2\r\n\r\nhi")
	writes(t, answer(300, "hi\r\n\r\n", "b", " c: d ", "A", "", "b", "e"), "HTTP/1.1 300 Multiple Choices\r\nb:  c: d \r\nA: \r\nb: e\r\ncontent-length: 6\r\n\r\nhi\r\n\r\n")
	writes(t, answer(599, "1234567890"), "HTTP/1.1 599 Other\r\ncontent-length: 10\r\n\r\n1234567890")
	writes(t, api.Answer{}, "HTTP/1.1 0 Other\r\ncontent-length: 0\r\n\r\n")
	writes(t, answer(99, allBytes(), "", "", allBytes(), allBytes(), "content-length", "7"), "HTTP/1.1 99 Other\r\n: \r\n"+allBytes()+": "+allBytes()+"\r\ncontent-length: 7\r\ncontent-length: 256\r\n\r\n"+allBytes())
	writes(t, answer(1234567, ""), "HTTP/1.1 1234567 Other\r\ncontent-length: 0\r\n\r\n")
}

func TestReasons(t *testing.T) {
	said := map[int]string{
		200: "OK", 204: "No Content", 300: "Multiple Choices", 400: "Bad Request", 404: "Not Found", 405: "Method Not Allowed", 409: "Conflict",
		412: "Precondition Failed", 413: "Content Too Large", 414: "URI Too Long", 503: "Service Unavailable",
	}
	for status := -1000; status <= 2000; status++ {
		want, there := said[status]
		if !there {
			want = "Other"
		}
		is(t, fmt.Sprint("Reason of ", status), http.Reason(status), want)
	}
	for _, status := range []int{-1 << 63, 1<<63 - 1, 200 + 1<<32} {
		is(t, fmt.Sprint("Reason of ", status), http.Reason(status), "Other")
	}
}

// readable are some answers that Read tells.
func readable() []api.Answer {
	return []api.Answer{
		answer(200, ""), answer(204, "", "x", "1"), answer(300, "hi\r\n\r\n", "x", "a: b"), answer(100, "1"), answer(999, "2"), answer(101, ""),
		answer(200, allBytes()), answer(200, "HTTP/1.1 200 OK\r\ncontent-length: 0\r\n\r\n"), answer(503, strings.Repeat("b", 70000)),
		answer(200, "", "", ""), answer(200, "", "", " ", " ", "  "), answer(200, "", "a", "1", "a", "2", "A", "3"), answer(200, "", "a b", ": :", "\x00\xff\t", "\x00\xff\t"),
		answer(200, "b", "Content-Length", "7", "content-length ", "8", " content-length", "9", "content-lengths", "5", "content", "length", "x", "content-length: 3"),
		answer(200, "", strings.Repeat("n", 5000), strings.Repeat("v", 50000)),
	}
}

func TestAnswersAreRead(t *testing.T) {
	for _, a := range readable() {
		w := http.Write(a)
		for _, behind := range []string{"", "rest", "\r\n", "\x00", w, "HTTP/1.1 200 OK\r\n"} {
			reads(t, w+behind, a, len(behind))
		}
	}
	for status := 100; status <= 999; status++ {
		reads(t, http.Write(answer(status, "b", "x", "y")), answer(status, "b", "x", "y"), 0)
	}
}

func TestAnswersThatAreTooShort(t *testing.T) {
	for _, a := range readable()[:7] {
		w := http.Write(a)
		for size := range len(w) {
			unread(t, w[:size])
		}
	}
}

func TestAnswersThatAreNotToBeRead(t *testing.T) {
	for _, status := range []int{-200, -100, -1, 0, 1, 20, 99, 1000, 2000, 1 << 62, -1 << 63} {
		unread(t, http.Write(answer(status, "b", "x", "y")))
	}
	for _, headers := range [][]string{
		{"a:b", "c"}, {":", ""}, {"a:", "b"}, {":a", "b"}, {"a\r", "b"}, {"a\n", "b"}, {"a\r\nb", "c"}, {"a", "b\r"}, {"a", "b\n"}, {"a", "\rb"}, {"a", "b\nc"}, {"a", "\r"}, {"\n", ""},
		{"content-length", "0"}, {"content-length", "2"}, {"content-length", ""}, {"a", "b\r\n"}, {"a", "\r\n\r\n"},
	} {
		unread(t, http.Write(answer(200, "hi", headers...)))
		unread(t, http.Write(answer(200, "hi", append([]string{"x", "y"}, headers...)...)))
		unread(t, http.Write(answer(200, "hi", append(headers, "x", "y")...)))
	}
	// What is written of such an answer may be just what is written of another one.
	reads(t, http.Write(answer(200, "", "a", "b\r\nc: d")), answer(200, "", "a", "b", "c", "d"), 0)
	reads(t, http.Write(answer(200, "", "a: b", "c")), answer(200, "", "a", "b: c"), 0)
	reads(t, http.Write(answer(200, "", "a: b\r\nc", "d")), answer(200, "", "a", "b", "c", "d"), 0)
	reads(t, http.Write(answer(200, "hi", "content-length", "0\r\n\r\n")), answer(200, ""), len("\r\ncontent-length: 2\r\n\r\nhi"))
}

func TestBytesThatAreNoAnswer(t *testing.T) {
	for _, s := range []string{
		"", "\r\n\r\n", "hi", bare(), "http/1.1 200 OK\r\ncontent-length: 0\r\n\r\n", "HTTP/1.0 200 OK\r\ncontent-length: 0\r\n\r\n", " HTTP/1.1 200 OK\r\ncontent-length: 0\r\n\r\n",
		"HTTP/1.1 200 Ok\r\ncontent-length: 0\r\n\r\n", "HTTP/1.1 200 Other\r\ncontent-length: 0\r\n\r\n", "HTTP/1.1 599 OK\r\ncontent-length: 0\r\n\r\n", "HTTP/1.1 200\r\ncontent-length: 0\r\n\r\n",
		"HTTP/1.1 200 \r\ncontent-length: 0\r\n\r\n", "HTTP/1.1  200 OK\r\ncontent-length: 0\r\n\r\n", "HTTP/1.1 200  OK\r\ncontent-length: 0\r\n\r\n", "HTTP/1.1 200 OK \r\ncontent-length: 0\r\n\r\n",
		"HTTP/1.1 0200 OK\r\ncontent-length: 0\r\n\r\n", "HTTP/1.1 +200 OK\r\ncontent-length: 0\r\n\r\n", "HTTP/1.1 2x0 Other\r\ncontent-length: 0\r\n\r\n", "HTTP/1.1 OK\r\ncontent-length: 0\r\n\r\n",
		"HTTP/1.1 204 No Content and more\r\ncontent-length: 0\r\n\r\n", "HTTP/1.1\t200 OK\r\ncontent-length: 0\r\n\r\n", "HTTP/1.1 200 OK\ncontent-length: 0\n\n", "HTTP/1.1 200 OK\r\n\ncontent-length: 0\r\n\r\n",
		"HTTP/1.1 200 OK\r\n\r\n", "HTTP/1.1 200 OK\r\nx: y\r\n\r\n", "HTTP/1.1 200 OK\r\ncontent-length: 0\r\nx: y\r\n\r\n", "HTTP/1.1 200 OK\r\ncontent-length: 0\r\ncontent-length: 0\r\n\r\n",
		"HTTP/1.1 200 OK\r\nContent-Length: 0\r\n\r\n", "HTTP/1.1 200 OK\r\ncontent-length:0\r\n\r\n", "HTTP/1.1 200 OK\r\ncontent-length:  0\r\n\r\n", "HTTP/1.1 200 OK\r\ncontent-length: 0 \r\n\r\n",
		"HTTP/1.1 200 OK\r\ncontent-length: 00\r\n\r\n", "HTTP/1.1 200 OK\r\ncontent-length: 02\r\n\r\nhi", "HTTP/1.1 200 OK\r\ncontent-length: +2\r\n\r\nhi", "HTTP/1.1 200 OK\r\ncontent-length: -0\r\n\r\n",
		"HTTP/1.1 200 OK\r\ncontent-length: -2\r\n\r\nhi", "HTTP/1.1 200 OK\r\ncontent-length: \r\n\r\n", "HTTP/1.1 200 OK\r\ncontent-length\r\n\r\n", "HTTP/1.1 200 OK\r\ncontent-length: x\r\n\r\n",
		"HTTP/1.1 200 OK\r\ncontent-length: 4\r\n\r\nhi", "HTTP/1.1 200 OK\r\ncontent-length: 99999999999999999999\r\n\r\nhi", "HTTP/1.1 200 OK\r\ncontent-length: 18446744073709551618\r\n\r\nhi", "HTTP/1.1 200 OK\r\ncontent-length: 2\r\n\r\n",
		"HTTP/1.1 200 OK\r\nx:y\r\ncontent-length: 0\r\n\r\n", "HTTP/1.1 200 OK\r\nx\r\ncontent-length: 0\r\n\r\n", "HTTP/1.1 200 OK\r\nx :y\r\ncontent-length: 0\r\n\r\n", "HTTP/1.1 200 OK\r\nx:\r\ncontent-length: 0\r\n\r\n",
		"HTTP/1.1 200 OK\r\nx: y\ncontent-length: 0\r\n\r\n", "HTTP/1.1 200 OK\r\n\r\ncontent-length: 0\r\n\r\n", "HTTP/1.1 200 OK\r\nx: y\r\n\r\ncontent-length: 0\r\n\r\n", "HTTP/1.1 200 OK\r\nx: y\r\r\ncontent-length: 0\r\n\r\n",
		"HTTP/1.1 200 OK\r\nx:y: z\r\ncontent-length: 0\r\n\r\n", "HTTP/1.1 200 OK\r\nx: y: z\r\ncontent-length: 0\r\n\n", "content-length: 0\r\n\r\n", "HTTP/1.1 200 OK content-length: 0\r\n\r\n",
	} {
		unread(t, s)
		unread(t, s+"h")
	}
}
