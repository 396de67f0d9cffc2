package clock

import (
	"strings"

	"murmuration/api"
	"murmuration/pack"
)

const digits = "0123456789abcdef"

// leastDot is how many bytes the shortest dot has.
const leastDot = 2

// Bytes, Read, Text and Parse: a clock as bytes and as a text, and back.
func Bytes(c api.Clock) string {
	c = Norm(c)
	w := pack.Writer{}
	w.Num(uint64(len(c)))
	for d := range dots(c) {
		w.Num(d.Actor, d.N)
	}
	return w.Bytes()
}

// Read asks for no error of the reader's: what it has read, written again, is s only if s is right from end to end.
func Read(s string) (api.Clock, api.Errno) {
	var c api.Clock
	r := pack.Read(s)
	for range r.Many(leastDot) {
		c = append(c, api.Dot{Actor: r.Num(), N: r.Num()})
	}
	if Bytes(c) != s {
		return nil, api.ErrContext
	}
	return c, api.OK
}

func Text(c api.Clock) string {
	s := Bytes(c)
	text := make([]byte, 0, 2*len(s))
	for i := range len(s) {
		text = append(text, digits[s[i]>>4], digits[s[i]&15])
	}
	return string(text)
}

// Parse asks neither for errors nor for digits, nor whether their number is even: what is wrong in s is not in the Text of what is read.
func Parse(s string) (api.Clock, api.Errno) {
	b := make([]byte, len(s)/2)
	for i := range b {
		b[i] = digit(s[2*i])<<4 | digit(s[2*i+1])
	}
	c, _ := Read(string(b))
	if Text(c) != s {
		return nil, api.ErrContext
	}
	return c, api.OK
}

func digit(b byte) byte { return byte(strings.IndexByte(digits, b)) }
