package http_test

import (
	"fmt"
	"strings"
	"testing"

	"murmuration/api"
	"murmuration/http"
)

// P21.1

func TestExamples(t *testing.T) {
	tells(t, asked("GET /kv/a%20b/c?r=2&x HTTP/1.1", "X-Y:  z "), api.Call{Method: "GET", Path: path("kv", "a b", "c"), Query: pairs("r", "2", "x", ""), Headers: pairs("x-y", "z")})
	s := stream(t, asked("PUT / HTTP/1.1", "Content-Length: 2")+"hi!")
	next(t, "a PUT", s, api.Call{Method: "PUT", Path: path(""), Headers: pairs("content-length", "2"), Body: "hi"}, 0)
	is(t, "Waits", s.Waits(), 1)
	breaks(t, lined("get / HTTP/1.1"), 400)
	breaks(t, lined("GET x HTTP/1.1"), 400)
	breaks(t, lined("GET /%4 HTTP/1.1"), 400)
}

func TestMethods(t *testing.T) {
	for _, method := range []string{"A", "Z", "DELETE", "ABCDEFGHIJKLMNOP"} {
		tells(t, asked(method+" / HTTP/1.1"), api.Call{Method: method, Path: path("")})
	}
	for _, method := range []string{"", "g", "GEt", "G-T", "G3T", "GET\t", "@", "[", "ABCDEFGHIJKLMNOPQ"} {
		breaks(t, lined(method+" / HTTP/1.1"), 400)
	}
	for c := range 256 {
		line := "G" + string([]byte{byte(c)}) + "T / HTTP/1.1"
		if c >= 'A' && c <= 'Z' {
			tells(t, asked(line), api.Call{Method: line[:3], Path: path("")})
		} else {
			breaks(t, asked(line), 400)
		}
	}
}

func TestFirstLinesThatAreNone(t *testing.T) {
	for _, line := range []string{
		"", " ", "GET", "GET ", "GET /", "GET / ", "GET  / HTTP/1.1", "GET /  HTTP/1.1", " GET / HTTP/1.1", "GET / HTTP/1.1 ", "GET / HTTP/1.1 x",
		"GET / HTTP/1.0", "GET / HTTP/1.11", "GET / HTTP/2", "GET / http/1.1", "GET / HTTP/1,1", "GET\t/ HTTP/1.1", "GET /\tHTTP/1.1", "/ HTTP/1.1", "HTTP/1.1",
		"GET  HTTP/1.1", "GET x/ HTTP/1.1", "GET ?/ HTTP/1.1", "GET %2f HTTP/1.1", "GET * HTTP/1.1", "GET http://a/ HTTP/1.1", "GET /a b HTTP/1.1",
		"GET / HTTP/1.1\r", "\rGET / HTTP/1.1", "GET / HTTP/1.1\n", "\nGET / HTTP/1.1", "GET /\r HTTP/1.1", "GET / HTTP/1.1\nx: y", "GET / HTTP/1.1\rx: y",
	} {
		breaks(t, lined(line), 400)
		breaks(t, asked(line), 400)
		breaks(t, asked(line, "x: y")+"behind", 400)
	}
}

func TestTargetsBytes(t *testing.T) {
	for c := range 256 {
		text := string([]byte{byte(c)})
		lines := asked("GET /a" + text + "b?c" + text + "=d" + text + " HTTP/1.1")
		switch {
		case c <= 32 || c >= 127 || c == '%':
			breaks(t, lines, 400)
		case strings.Contains("/?&=", text): // these part it: see below
		default:
			tells(t, lines, api.Call{Method: "GET", Path: path("a" + text + "b"), Query: pairs("c"+text, "d"+text)})
		}
	}
}

func TestPaths(t *testing.T) {
	for target, want := range map[string][]string{
		"/": path(""), "//": path("", ""), "/a": path("a"), "/a/": path("a", ""), "//a": path("", "a"), "/a//b": path("a", "", "b"),
		"/kv/a%20b/c": path("kv", "a b", "c"), "/a%2fb/%2F": path("a/b", "/"), "/%3F%26%3d%25": path("?&=%"), "/%00%ff%0d%0A": path("\x00\xff\r\n"),
		"/%2525": path("%25"), "/a+b": path("a+b"), "/a&b=c;d#e": path("a&b=c;d#e"), "/../.": path("..", "."),
	} {
		tells(t, asked("GET "+target+" HTTP/1.1"), get(want...))
		tells(t, asked("GET "+target+"? HTTP/1.1"), get(want...))
	}
}

func TestQueries(t *testing.T) {
	for query, want := range map[string][]api.Pair{
		"": nil, "r=2&x": pairs("r", "2", "x", ""), "x": pairs("x", ""), "x=": pairs("x", ""), "=x": pairs("", "x"), "=": pairs("", ""), "==": pairs("", "="), "a=b=c": pairs("a", "b=c"),
		"&": pairs("", "", "", ""), "a&": pairs("a", "", "", ""), "&a": pairs("", "", "a", ""), "a&&b": pairs("a", "", "", "", "b", ""),
		"a=1&a=2": pairs("a", "1", "a", "2"), "b=1&a=2": pairs("b", "1", "a", "2"), "?": pairs("?", ""), "a?b=c?d": pairs("a?b", "c?d"), "a/b=/": pairs("a/b", "/"),
		"%61%3d=%26%3D&b%20=%00": pairs("a=", "&=", "b ", "\x00"), "a%26b": pairs("a&b", ""), "a+b=c+d": pairs("a+b", "c+d"), "R=2": pairs("R", "2"),
	} {
		c := get("a", "b")
		c.Query = want
		tells(t, asked("GET /a/b?"+query+" HTTP/1.1"), c)
	}
}

func TestPercents(t *testing.T) {
	for _, wrong := range []string{"%", "%4", "%g0", "%0g", "%%", "%%41", "% 41", "%+1", "%-1", "%0x", "%_1", "%1_", "a%2", "%41%", "%u0041"} {
		for _, target := range []string{"/" + wrong, "/a/" + wrong, "/" + wrong + "/1a", "/" + wrong + "?1a", "/?" + wrong, "/?" + wrong + "=1a", "/?a=" + wrong, "/?a=" + wrong + "&1a", "/?a&" + wrong} {
			breaks(t, lined("GET "+target+" HTTP/1.1"), 400)
		}
	}
	tells(t, asked("GET /%41%5a%5A%fF HTTP/1.1", "x: %", "y: %4", "z: %zz"), api.Call{Method: "GET", Path: path("AZZ\xff"), Headers: pairs("x", "%", "y", "%4", "z", "%zz")})
}

func TestHeaders(t *testing.T) {
	for _, c := range []struct {
		line string
		want []api.Pair
	}{
		{"a:", pairs("a", "")}, {"a: ", pairs("a", "")}, {"a: \t \t", pairs("a", "")}, {"a:b", pairs("a", "b")}, {"a: b", pairs("a", "b")}, {"a: \tb \t", pairs("a", "b")},
		{"A-B-9:C-D", pairs("a-b-9", "C-D")}, {"a: b c\td", pairs("a", "b c\td")}, {"a::", pairs("a", ":")}, {"a: b: c", pairs("a", "b: c")}, {"-: -", pairs("-", "-")}, {"0:0", pairs("0", "0")},
		{"a: !\"#$%&'()*+,-./09:;<=>?@AZ[\\]^_`az{|}~", pairs("a", "!\"#$%&'()*+,-./09:;<=>?@AZ[\\]^_`az{|}~")},
		{strings.Repeat("N", 64) + ":v", pairs(strings.Repeat("n", 64), "v")},
		{"ABCDEFGHIJKLMNOPQRSTUVWXYZ: v", pairs("abcdefghijklmnopqrstuvwxyz", "v")},
	} {
		g := get("")
		g.Headers = c.want
		tells(t, bare(c.line), g)
		g.Headers = append(append(pairs("x", "y"), c.want...), pairs("x", "Y")...)
		tells(t, bare("x: y", c.line, "X: Y"), g)
	}
}

func TestHeadersBytes(t *testing.T) {
	for c := range 256 {
		text := string([]byte{byte(c)})
		g := get("")
		if g.Headers = pairs("a"+strings.ToLower(text)+"b", "v"); c == '-' || c >= '0' && c <= '9' || c >= 'A' && c <= 'Z' || c >= 'a' && c <= 'z' {
			tells(t, bare("a"+text+"b: v"), g)
		} else if c != ':' {
			breaks(t, bare("a"+text+"b: v"), 400)
		}
		if g.Headers = pairs("n", "a"+text+"b"); c == '\t' || c >= 32 && c <= 126 {
			tells(t, bare("n: a"+text+"b"), g)
		} else {
			breaks(t, bare("n: a"+text+"b"), 400)
			breaks(t, bare("n: "+text), 400)
			breaks(t, bare("n: a"+text), 400)
		}
	}
}

func TestHeaderLinesThatAreNone(t *testing.T) {
	for _, line := range []string{
		"a", ":", ":a", " a: b", "\ta: b", "a : b", "a\t: b", "a b: c", " ", "a_b: c", "\r", "\n", "a: b\r", "a: b\n", "a: b\nc: d", "a: b\rc: d", "\xc3\xa4: b", "a: \xc3\xa4", "\u212a: b",
		strings.Repeat("n", 65) + ": v", strings.Repeat("n", 65),
	} {
		breaks(t, bare(line), 400)
		breaks(t, bare("x: y", line, "x: y")+"behind", 400)
		waits(t, lined("GET / HTTP/1.1", line)) // its headers' end is still to come
	}
}

func TestBodies(t *testing.T) {
	for _, c := range []struct {
		length, body string
	}{
		{"0", ""}, {"00", ""}, {"000000000", ""}, {"1", "b"}, {"2", "\r\n"}, {"4", "\r\n\r\n"}, {"256", allBytes()}, {"000000256", allBytes()}, {" 18 ", bare()},
		{"\t3\t ", "abc"}, {"29999", strings.Repeat("b", 29999)}, {"30000", strings.Repeat("b", 30000)}, {"000030000", strings.Repeat("b", 30000)},
	} {
		want := api.Call{Method: "GET", Path: path(""), Headers: pairs("content-length", strings.Trim(c.length, " \t")), Body: c.body}
		for _, name := range []string{"content-length", "Content-Length", "CONTENT-LENGTH", "cOnTeNt-LeNgTh"} {
			text := bare(name+":"+c.length) + c.body
			tells(t, text, want)
			s := stream(t, text+"hi")
			next(t, c.length+" bytes and more", s, want, 0)
			is(t, "Waits", s.Waits(), 2)
			if c.body != "" {
				waits(t, text[:len(text)-1])
			}
		}
	}
	tells(t, asked("POST / HTTP/1.1", "a: b", "content-length: 2", "c: d")+"hi", api.Call{Method: "POST", Path: path(""), Headers: pairs("a", "b", "content-length", "2", "c", "d"), Body: "hi"})
	s := stream(t, bare("contentlength: 2", "content-length-: 2", "x-content-length: 2")+"hi")
	next(t, "other headers", s, api.Call{Method: "GET", Path: path(""), Headers: pairs("contentlength", "2", "content-length-", "2", "x-content-length", "2")}, 0)
	is(t, "Waits", s.Waits(), 2)
}

func TestLengthsThatAreNone(t *testing.T) {
	for _, length := range []string{"", " ", "x", "-1", "+1", "1x", "x1", "1 2", "1\t2", "1,2", "1.0", "0x1", "1_0", "1e1", "0000000000", "0000000001", "1234567890", "99999999999999999999"} {
		breaks(t, bare("content-length:"+length), 400)
		breaks(t, bare("Content-Length: "+length)+"1", 400)
	}
	for _, length := range []string{"30001", "000030001", "40000", "100000", "999999999"} {
		breaks(t, bare("content-length: "+length), 413)
		breaks(t, bare("a: b", "Content-Length:"+length, "c: d")+strings.Repeat("b", 30001), 413)
	}
	for _, lines := range [][]string{{"content-length: 1", "content-length: 1"}, {"content-length: 0", "a: b", "Content-Length: 0"}, {"content-length: 1", "CONTENT-LENGTH: 2"}} {
		breaks(t, bare(lines...)+"bbb", 400)
	}
	for _, line := range []string{"transfer-encoding: chunked", "Transfer-Encoding: identity", "TRANSFER-ENCODING:", "transfer-encoding: 0"} {
		breaks(t, bare(line), 400)
		breaks(t, bare("content-length: 1", line, "a: b")+"b", 400)
	}
	tells(t, bare("transferencoding: chunked", "x-transfer-encoding: chunked", "x: transfer-encoding"), api.Call{Method: "GET", Path: path(""), Headers: pairs("transferencoding", "chunked", "x-transfer-encoding", "chunked", "x", "transfer-encoding")})
}

// Of several faults the one that stands first.
func TestTheFirstFaultCounts(t *testing.T) {
	const great = "content-length: 30001"
	for _, other := range []string{"a", "content-length: 1", great, "content-length: x", "transfer-encoding: chunked"} {
		breaks(t, bare(great, other), 413)
		breaks(t, bare("a: b", great, "a: b", other), 413)
		breaks(t, asked("GET /% HTTP/1.1", great, other), 400)
	}
	for _, other := range []string{"a", "content-length: 1", "content-length: x", "transfer-encoding: chunked"} {
		breaks(t, bare(other, great), 400)
		breaks(t, bare("a: b", other, "a: b", great), 400)
	}
	breaks(t, lined(strings.Repeat("%", 2049)), 414)
	breaks(t, bare(great, "a: "+strings.Repeat("b", 8192)), 400) // that the header lines are too long, stands at their beginning
}

// What can be told is told, though other bytes are missing; what is not whole yet waits.
func TestWhatCanBeTold(t *testing.T) {
	for _, text := range []string{"", "G", "g", "\r", "\n", "get / HTTP/1.1", "get / HTTP/1.1\r", "get / HTTP/1.1\n", "%\x00\xff", "GET /", "GET / HTTP/1.1\r"} {
		waits(t, text)
	}
	for _, text := range []string{"a", "a\r", "a\r\n", "a\r\n\r", "a: b\r\n\r", "\r", "content-length: 30001\r\n", "content-length: x\r\n\r", "transfer-encoding: chunked\r\ncontent-length: 1\r\n"} {
		waits(t, lined("GET / HTTP/1.1")+text)
	}
	for size := range 5 {
		waits(t, bare("content-length: 5")+strings.Repeat("b", size))
	}
	breaks(t, lined("get / HTTP/1.1"), 400)
	breaks(t, bare("a"), 400)
	breaks(t, bare("content-length: 30001"), 413)
}

func TestLongFirstLines(t *testing.T) {
	line := func(size int) string {
		return "GET /" + strings.Repeat("a", size-len("GET / HTTP/1.1")) + " HTTP/1.1"
	}
	for _, size := range []int{2046, 2047, 2048} {
		tells(t, asked(line(size)), get(strings.Repeat("a", size-len("GET / HTTP/1.1"))))
		waits(t, line(size))
		waits(t, line(size)+"\r")
		breaks(t, lined(strings.Repeat("x", size)), 400)
	}
	for _, size := range []int{2049, 2050, 2051, 4000, 65000} {
		breaks(t, asked(line(size)), 414)
		breaks(t, lined(strings.Repeat("x", size)), 414)
		breaks(t, lined(line(size)), 414)
	}
	waits(t, line(2049))
	waits(t, strings.Repeat("\xff", 2049))
	waits(t, strings.Repeat("a", 2048)+"\r")
	breaks(t, line(2049)+"\r", 414)
	breaks(t, line(2050), 414)
	breaks(t, strings.Repeat("\n", 2050), 414)
	breaks(t, strings.Repeat("a", 2049)+"\r\n", 414)
	breaks(t, strings.Repeat("a", 65536), 414)
}

func TestLongHeaders(t *testing.T) {
	// lines are header lines of so many bytes, with their ends.
	lines := func(size int, each int) string {
		var b strings.Builder
		for size-b.Len() >= 2*each {
			b.WriteString(lined("a:" + strings.Repeat("b", each-4)))
		}
		b.WriteString(lined("a:" + strings.Repeat("b", size-b.Len()-4)))
		return b.String()
	}
	const first = "GET / HTTP/1.1\r\n"
	for _, each := range []int{4, 5, 100, 5000} {
		for _, size := range []int{8190, 8191, 8192} {
			text := lines(size, each)
			c, x := stream(t, first+text+"\r\n").Next()
			is(t, fmt.Sprint("header lines of ", size), fmt.Sprint(len(c.Headers), x), fmt.Sprint(strings.Count(text, ":"), 0))
			waits(t, first+text)
			waits(t, first+text+"\r")
			breaks(t, first+text+"c\r\n\r\n", 400)
		}
		for _, size := range []int{8193, 8194, 8195, 9000, 60000} {
			breaks(t, first+lines(size, each)+"\r\n", 400)
		}
		waits(t, first+lines(8193, each))
		breaks(t, first+lines(8193, each)+"\r", 400)
		breaks(t, first+lines(8194, each), 400)
	}
	waits(t, first+strings.Repeat("\n", 8193))
	breaks(t, first+strings.Repeat("\n", 8194), 400)
}

func TestTheGreatestRequest(t *testing.T) {
	const length = "content-length:30000"
	part, value, body := strings.Repeat("a", 2048-len("GET / HTTP/1.1")), strings.Repeat("v", 8192-len("n:\r\n"+length+"\r\n")), strings.Repeat("b", 30000)
	text := asked("GET /"+part+" HTTP/1.1", "n:"+value, length) + body
	is(t, "its bytes", len(text), 2048+2+8192+2+30000)
	tells(t, text, api.Call{Method: "GET", Path: path(part), Headers: pairs("n", value, "content-length", "30000"), Body: body})
	waits(t, text[:len(text)-1])
}

func TestRequestsInARow(t *testing.T) {
	put := asked("PUT /a?b HTTP/1.1", "content-length: 3", "c: d") + "\r\n\r"
	s := stream(t, bare()+put+bare("x: y")+put+"G")
	a := api.Call{Method: "PUT", Path: path("a"), Query: pairs("b", ""), Headers: pairs("content-length", "3", "c", "d"), Body: "\r\n\r"}
	b := get("")
	b.Headers = pairs("x", "y")
	left := s.Waits()
	for _, c := range []struct {
		want api.Call
		size int
	}{{get(""), len(bare())}, {a, len(put)}, {b, len(bare("x: y"))}, {a, len(put)}} {
		next(t, "requests in a row", s, c.want, 0)
		left -= c.size
		is(t, "Waits", s.Waits(), left)
	}
	next(t, "a beginning", s, api.Call{}, -1)
	is(t, "Waits", s.Waits(), 1)
	is(t, "Feed", s.Feed("ET /z HTTP/1.1\r\n\r\n\r\n"), 20)
	next(t, "what was begun", s, get("z"), 0)
	next(t, "an empty line", s, api.Call{}, 400)
	isBroken(t, "an empty line", s, 400)
}

// What was told of a request is not in the next one: neither its query, headers nor length.
func TestRequestsStandAlone(t *testing.T) {
	s := stream(t, asked("PUT /a/b?c=d HTTP/1.1", "content-length: 2", "e: f")+"hi"+bare()+bare("content-length: 1")+"x")
	s.Next()
	next(t, "the next one", s, get(""), 0)
	next(t, "another length", s, api.Call{Method: "GET", Path: path(""), Headers: pairs("content-length", "1"), Body: "x"}, 0)
}

func TestRoom(t *testing.T) {
	s := &http.Stream{}
	is(t, "Feed of nothing", s.Feed(""), 0)
	one := asked("PUT / HTTP/1.1", "content-length: 29900") + strings.Repeat("b", 29900)
	is(t, "two of them", s.Feed(one+one), 2*len(one))
	room := 65536 - 2*len(one)
	is(t, "room", s.Feed(strings.Repeat("G", 60000)), room)
	is(t, "Waits", s.Waits(), 65536)
	is(t, "no room", s.Feed("G"), 0)
	is(t, "Waits", s.Waits(), 65536)
	_, x := s.Next()
	is(t, "one of them", fmt.Sprint(x, s.Waits()), fmt.Sprint(0, 65536-len(one)))
	is(t, "room again", s.Feed(strings.Repeat("G", 60000)), len(one))
	is(t, "Waits", s.Waits(), 65536)
	_, x = s.Next()
	is(t, "the other one", fmt.Sprint(x, s.Waits()), fmt.Sprint(0, 65536-len(one)))
	next(t, "a long line", s, api.Call{}, 414)
	isBroken(t, "a long line", s, 414)
}

// A stream is broken once Next says so, not before; from then on it takes nothing.
func TestBytesBehindAFault(t *testing.T) {
	s := stream(t, lined("get / HTTP/1.1"))
	is(t, "Feed", s.Feed("more"), 4)
	is(t, "Waits", s.Waits(), 20)
	next(t, "a fault", s, api.Call{}, 400)
	isBroken(t, "a fault", s, 400)
	s = stream(t, bare()+bare("content-length: 99999")+bare())
	next(t, "ahead of a fault", s, get(""), 0)
	next(t, "a fault behind a call", s, api.Call{}, 413)
	isBroken(t, "a fault behind a call", s, 413)
}

func TestNoStream(t *testing.T) {
	var s *http.Stream
	is(t, "Feed", s.Feed(bare()), 0)
	next(t, "none", s, api.Call{}, 400)
	is(t, "Waits", s.Waits(), 0)
	is(t, "a zero one", fmt.Sprint((&http.Stream{}).Waits()), 0)
	next(t, "a zero one", &http.Stream{}, api.Call{}, -1)
}
