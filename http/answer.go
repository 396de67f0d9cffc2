package http

import (
	"slices"
	"strconv"
	"strings"

	"murmuration/api"
)

// answerOf takes up what Write may have made; of other bytes it is any answer.
func answerOf(s string) api.Answer {
	head, body, _ := strings.Cut(s, twoEnds)
	lines := strings.Split(head, lineEnd)
	part, last := parts(lines[0]), parts(lines[len(lines)-1])
	part(" ")
	last(": ")
	status, _ := strconv.Atoi(part(" "))
	length, _ := strconv.Atoi(last(lineEnd))
	a := api.Answer{Status: status, Body: body[:max(0, min(length, len(body)))]}
	for _, line := range lines[1:max(1, len(lines)-1)] {
		name, value, _ := strings.Cut(line, ": ")
		a.Headers = append(a.Headers, api.Pair{Key: name, Value: value})
	}
	return a
}

// isReadable says whether Read may tell that answer.
func isReadable(a api.Answer) bool {
	return a.Status >= 100 && a.Status <= 999 && !slices.ContainsFunc(a.Headers, func(h api.Pair) bool {
		return h.Key == lengthName || strings.ContainsAny(h.Key, ":"+lineEnd) || strings.ContainsAny(h.Value, lineEnd)
	})
}
