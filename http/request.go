package http

import (
	"strconv"
	"strings"

	"murmuration/api"
)

const (
	version    = "HTTP/1.1"
	lineEnd    = "\r\n"
	twoEnds    = lineEnd + lineEnd
	lengthName = "content-length"
	codingName = "transfer-encoding"
)

// The statuses by which a stream is broken.
const (
	badRequest = 400
	tooLarge   = 413
	tooLong    = 414
)

// The states of a request on its way: what is to be taken up of it next.
const (
	atLine = iota
	atHeaders
	atBody
	whole
	broken
)

// takeUp takes up of a request as much as there is.
func (s *Stream) takeUp() {
	if s.state == atLine {
		s.takeLine()
	}
	if s.state == atHeaders {
		s.takeHeaders()
	}
	if s.state == atBody {
		s.takeBody()
	}
}

// refuse breaks the stream; its bytes go with all else.
func (s *Stream) refuse(status int) { *s = Stream{state: broken, status: status} }

// tell hands the call over, and begins anew behind it.
func (s *Stream) tell() api.Call {
	call := s.call
	s.let(s.at)
	*s = Stream{kept: s.kept}
	return call
}

func (s *Stream) takeLine() {
	switch line, there, never := s.ahead(0, api.MaxLine, lineEnd); {
	case never:
		s.refuse(tooLong)
	case there:
		s.begin(line)
	}
}

func (s *Stream) begin(line string) {
	call, right := callOf(line)
	if !right {
		s.refuse(badRequest)
		return
	}
	s.call, s.at, s.state = call, len(line), atHeaders
}

// takeHeaders begins at the first line's end: with that one ahead of each header line the empty line is two ends in a row, be there header lines or none.
func (s *Stream) takeHeaders() {
	switch text, there, never := s.ahead(s.at, api.MaxHeaders, twoEnds); {
	case never:
		s.refuse(badRequest)
	case there:
		s.at, s.state = s.at+len(text)+len(twoEnds), atBody
		s.head(strings.Split(text, lineEnd)[1:])
	}
}

// head goes no further than the first line by which the stream is broken: of several faults that one stands first.
func (s *Stream) head(lines []string) {
	for _, line := range lines {
		if status := s.takeHeader(line); status != 0 {
			s.refuse(status)
			return
		}
	}
}

// takeHeader says a status, if the stream is to be broken.
func (s *Stream) takeHeader(line string) int {
	h, right := headerOf(line)
	status := 0
	switch {
	case !right || h.Key == codingName:
		status = badRequest
	case h.Key == lengthName:
		status = s.measure(h.Value)
	}
	s.call.Headers = append(s.call.Headers, h)
	return status
}

// measure is for a length that is not among the headers yet: one that is there already was said before.
func (s *Stream) measure(length string) int {
	_, twice := Find(s.call.Headers, lengthName)
	if twice || !isMade(length, 9, isDigit) {
		return badRequest
	}
	s.length, _ = strconv.Atoi(length)
	if s.length > api.MaxBody {
		return tooLarge
	}
	return 0
}

func (s *Stream) takeBody() {
	end := s.at + s.length
	if end <= len(s.fed) {
		s.call.Body = string(s.fed[s.at:end])
		s.at, s.state = end, whole
	}
}

// callOf is the call that a first line begins.
func callOf(line string) (api.Call, bool) {
	part := parts(line)
	method, target, last := part(" "), part(" "), part(lineEnd)
	if !isMade(method, 16, isCapital) || !strings.HasPrefix(target, "/") || !areAll(target, isOfTarget) || last != version {
		return api.Call{}, false
	}
	path, query, right := aim(target)
	if !right {
		return api.Call{}, false
	}
	return api.Call{Method: method, Path: path, Query: query}, true
}

func headerOf(line string) (api.Pair, bool) {
	name, value, there := strings.Cut(line, ":")
	if !there || !isMade(name, 64, isOfName) || !areAll(value, isOfValue) {
		return api.Pair{}, false
	}
	return api.Pair{Key: strings.ToLower(name), Value: strings.Trim(value, " \t")}, true
}

// parts tells a line's parts one by one: up to an end, or all that is left.
func parts(line string) func(end string) string {
	return func(end string) string {
		part, left, _ := strings.Cut(line, end)
		line = left
		return part
	}
}

// aim is a target's path and query; false, if one of their parts can't be decoded.
func aim(target string) (path []string, query []api.Pair, right bool) {
	right = true
	decoded := func(part string) string {
		text, ok := Decode(part)
		right = right && ok
		return text
	}
	first, second, _ := strings.Cut(target, "?")
	for _, part := range strings.Split(first, "/")[1:] {
		path = append(path, decoded(part))
	}
	if second != "" {
		for _, pair := range strings.Split(second, "&") {
			key, value, _ := strings.Cut(pair, "=")
			query = append(query, api.Pair{Key: decoded(key), Value: decoded(value)})
		}
	}
	return path, query, right
}
