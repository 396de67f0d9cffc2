package json

import (
	"strconv"

	"murmuration/api"
)

// fault is what a text is given up by: where, and why. A zero one is none.
type fault struct {
	at  int
	err api.Errno
}

// parser goes along a text: at stands ahead of what is not taken up yet, open are the lists and objects that are not closed yet.
type parser struct {
	text     string
	at, open int
}

// whole is where a fault that was given up by, however deep, is told. Its value is told only once nothing can be given up any more.
func (p *parser) whole() (v api.Json, f fault) {
	defer func() { f, _ = recover().(fault) }()
	all := p.value()
	p.next()
	p.insist(p.at == len(p.text))
	return all, fault{}
}

// insist gives up here, if that is not so.
func (p *parser) insist(so bool) {
	if !so {
		giveUp(p.at, api.ErrSyntax)
	}
}

func giveUp(at int, e api.Errno) { panic(fault{at, e}) }

// here is a byte 0 at the end: as it may stand nowhere, both are given up alike.
func (p *parser) here() byte {
	if p.at == len(p.text) {
		return 0
	}
	return p.text[p.at]
}

// next goes over blanks.
func (p *parser) next() byte {
	for {
		switch c := p.here(); c {
		case ' ', '\t', '\n', '\r':
			p.at++
		default:
			return c
		}
	}
}

// pass goes over just that word.
func (p *parser) pass(word string) {
	for i := range len(word) {
		p.insist(p.here() == word[i])
		p.at++
	}
}

func (p *parser) value() api.Json {
	switch p.next() {
	case 'n':
		p.pass("null")
		return api.Json{Kind: api.JsonNull}
	case 't':
		p.pass("true")
		return api.Json{Kind: api.JsonBool, B: true}
	case 'f':
		p.pass("false")
		return api.Json{Kind: api.JsonBool}
	case '"':
		return api.Json{Kind: api.JsonText, S: p.quoted()}
	case '[':
		return p.list()
	case '{':
		return p.object()
	}
	return api.Json{Kind: api.JsonNumber, N: p.number()}
}

func (p *parser) number() int64 {
	from := p.at
	if p.here() == '-' {
		p.at++
	}
	p.insist(isDigit(p.here()))
	if p.here() == '0' {
		p.at++ // a digit behind it belongs to no number
	} else {
		for isDigit(p.here()) {
			p.at++
		}
	}
	n, err := strconv.ParseInt(p.text[from:p.at], 10, 64)
	if err != nil {
		giveUp(from, api.ErrSyntax)
	}
	return n
}

func isDigit(c byte) bool { return c >= '0' && c <= '9' }

func (p *parser) list() api.Json {
	v := api.Json{Kind: api.JsonList}
	p.each("]", func() { v.L = append(v.L, p.value()) })
	return v
}

func (p *parser) object() api.Json {
	v := api.Json{Kind: api.JsonObject}
	there := taken{}
	p.each("}", func() {
		v.Names = append(v.Names, p.name(there))
		v.L = append(v.L, p.value())
	})
	return v
}

func (p *parser) name(there taken) string {
	p.next()
	from := p.at
	name := p.quoted()
	if !there.take(name) {
		giveUp(from, api.ErrSyntax)
	}
	p.next()
	p.pass(":")
	return name
}

// each takes up what stands in brackets, with commas between.
func (p *parser) each(end string, take func()) {
	if p.open == api.MostDeep {
		giveUp(p.at, api.ErrDeep)
	}
	p.open++
	p.at++
	if p.next() != end[0] {
		take()
		for p.next() == ',' {
			p.at++
			take()
		}
	}
	p.pass(end)
	p.open--
}

func (p *parser) quoted() string {
	p.pass(`"`)
	var b []byte
	for p.here() != '"' {
		c := p.here()
		p.insist(c >= ' ')
		p.at++
		if c == '\\' {
			c = p.escaped()
		}
		b = append(b, c)
	}
	p.at++
	return string(b)
}

// escaped is the byte that is said behind a backslash.
func (p *parser) escaped() byte {
	c := p.here()
	switch c {
	case '"', '\\', '/':
	case 'b':
		c = '\b'
	case 'f':
		c = '\f'
	case 'n':
		c = '\n'
	case 'r':
		c = '\r'
	case 't':
		c = '\t'
	case 'u':
		p.pass("u00")
		high := p.digit()
		return high<<4 | p.digit()
	default:
		p.insist(false)
	}
	p.at++
	return c
}

// digit is a hexadecimal one, capital or small.
func (p *parser) digit() byte {
	c := p.here()
	switch {
	case isDigit(c):
		c -= '0'
	case c >= 'a' && c <= 'f':
		c -= 'a' - 10
	case c >= 'A' && c <= 'F':
		c -= 'A' - 10
	default:
		p.insist(false)
	}
	p.at++
	return c
}
