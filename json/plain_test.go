package json_test

import (
	"fmt"
	"math/big"
	"math/rand"
	"regexp"
	"strconv"
	"strings"
	"testing"

	"murmuration/api"
	"murmuration/json"
)

// The chapter's words said once more: a list of what is open, and of each word as much as may stand there, by patterns.

const inText = `"(?:[^"\\\x00-\x1f]|\\["\\/bfnrt]|\\u00[0-9A-Fa-f]{2})*`

var (
	blanks    = regexp.MustCompile(`^[ \t\n\r]*`)
	wholeNum  = regexp.MustCompile(`^-?(?:0|[1-9][0-9]*)`)
	wholeText = regexp.MustCompile(`^` + inText + `"`)
	begunText = regexp.MustCompile(`^` + inText + `(?:\\(?:u(?:0(?:0[0-9A-Fa-f]?)?)?)?)?`)
	oneEscape = regexp.MustCompile(`\\(?:u00..|.)`)
)

type plain struct {
	s    string
	at   int
	open []api.Json
	last []string // names whose elements are still to come
}

// plainParse goes from word to word, without calling itself.
func plainParse(s string) (api.Json, int, api.Errno) {
	p := &plain{s: s}
	for {
		v, at, e := p.begin()
		if e != api.OK {
			return api.Json{}, at, e
		}
		for v != nil {
			p.at += len(blanks.FindString(s[p.at:]))
			if len(p.open) == 0 {
				if p.at < len(s) {
					return api.Json{}, p.at, api.ErrSyntax
				}
				return *v, 0, api.OK
			}
			if v, at, e = p.put(*v); e != api.OK {
				return api.Json{}, at, e
			}
		}
	}
}

// begin takes a value up, or (nil) the beginning of one up to where an element is to stand.
func (p *plain) begin() (*api.Json, int, api.Errno) {
	p.at += len(blanks.FindString(p.s[p.at:]))
	rest := p.s[p.at:]
	switch {
	case rest == "":
		return nil, len(p.s), api.ErrSyntax
	case rest[0] == '[' || rest[0] == '{':
		if len(p.open) == 16 {
			return nil, p.at, api.ErrDeep
		}
		p.at++
		return p.opened(rest[0])
	case rest[0] == '"':
		s, at, e := p.text()
		return &api.Json{Kind: 3, S: s}, at, e
	case rest[0] == '-' || rest[0] >= '0' && rest[0] <= '9':
		return p.number()
	}
	for word, v := range map[string]api.Json{"null": {}, "true": {Kind: 1, B: true}, "false": {Kind: 1}} {
		if word[0] != rest[0] {
			continue
		}
		for n := range len(word) {
			if n == len(rest) || rest[n] != word[n] {
				return nil, p.at + n, api.ErrSyntax
			}
		}
		p.at += len(word)
		return &v, 0, api.OK
	}
	return nil, p.at, api.ErrSyntax
}

func (p *plain) opened(bracket byte) (*api.Json, int, api.Errno) {
	kind, end := 4, "]"
	if bracket == '{' {
		kind, end = 5, "}"
	}
	p.at += len(blanks.FindString(p.s[p.at:]))
	if strings.HasPrefix(p.s[p.at:], end) {
		p.at++
		return &api.Json{Kind: kind}, 0, api.OK
	}
	p.open, p.last = append(p.open, api.Json{Kind: kind}), append(p.last, "")
	at, e := p.named()
	return nil, at, e
}

// named takes a name and its colon up, where there must be one.
func (p *plain) named() (int, api.Errno) {
	top := &p.open[len(p.open)-1]
	if top.Kind == 4 {
		return 0, api.OK
	}
	p.at += len(blanks.FindString(p.s[p.at:]))
	from := p.at
	name, at, e := p.text()
	if e != api.OK {
		return at, e
	}
	for _, other := range top.Names {
		if other == name {
			return from, api.ErrSyntax
		}
	}
	p.at += len(blanks.FindString(p.s[p.at:]))
	if !strings.HasPrefix(p.s[p.at:], ":") {
		return p.at, api.ErrSyntax
	}
	p.at++
	p.last[len(p.last)-1] = name
	return 0, api.OK
}

// put adds a value to the innermost that is open; what is closed with it is the next value.
func (p *plain) put(v api.Json) (*api.Json, int, api.Errno) {
	n := len(p.open) - 1
	top := &p.open[n]
	top.L = append(top.L, v)
	end := "]"
	if top.Kind == 5 {
		top.Names = append(top.Names, p.last[n])
		end = "}"
	}
	switch {
	case strings.HasPrefix(p.s[p.at:], ","):
		p.at++
		at, e := p.named()
		return nil, at, e
	case strings.HasPrefix(p.s[p.at:], end):
		p.at++
		done := *top
		p.open, p.last = p.open[:n], p.last[:n]
		return &done, 0, api.OK
	}
	return nil, p.at, api.ErrSyntax
}

func (p *plain) text() (string, int, api.Errno) {
	s := wholeText.FindString(p.s[p.at:])
	if s == "" {
		return "", p.at + len(begunText.FindString(p.s[p.at:])), api.ErrSyntax
	}
	p.at += len(s)
	return oneEscape.ReplaceAllStringFunc(s[1:len(s)-1], func(x string) string {
		if x[1] == 'u' {
			n, _ := strconv.ParseUint(x[2:], 16, 8)
			return string([]byte{byte(n)})
		}
		return strings.NewReplacer("b", "\b", "f", "\f", "n", "\n", "r", "\r", "t", "\t").Replace(x[1:])
	}), 0, api.OK
}

func (p *plain) number() (*api.Json, int, api.Errno) {
	s := wholeNum.FindString(p.s[p.at:])
	if s == "" {
		return nil, p.at + 1, api.ErrSyntax
	}
	n, _ := new(big.Int).SetString(s, 10)
	if !n.IsInt64() {
		return nil, p.at, api.ErrSyntax
	}
	p.at += len(s)
	return &api.Json{Kind: 2, N: n.Int64()}, 0, api.OK
}

// asPlain says that the text is parsed as the chapter's words have it.
func asPlain(t *testing.T, s string) api.Errno {
	t.Helper()
	v, at, e := json.Parse(s)
	w, wantAt, want := plainParse(s)
	if at != wantAt || e != want || shown(v) != shown(w) {
		t.Fatalf("Parse of %.300q: %.300s at %d, %d; want %.300s at %d, %d", s, shown(v), at, int(e), shown(w), wantAt, int(want))
	}
	return e
}

// eachText hands on all texts of so many of these pieces at most.
func eachText(most int, pieces []string, take func(s string)) {
	take("")
	if most == 0 {
		return
	}
	for _, piece := range pieces {
		eachText(most-1, pieces, func(s string) { take(piece + s) })
	}
}

func TestAllShortTexts(t *testing.T) {
	deep, objects := strings.Repeat("[", 15), strings.Repeat(`{"a":`, 14)
	for _, c := range []struct {
		ahead  []string
		most   int
		pieces string
	}{
		{[]string{"", "[", "{", `{"a":1,`, `[1,{"a":[`, deep, objects}, 5, `[ ] { } : , "a" 1 _`},
		{[]string{`"`, `{"a":1,"`}, 5, `" \ u 0 1 a F b / [ x`},
		{[]string{"", "[", "-", `{"a":`}, 5, "- 0 1 9 . e , ] _"},
		{[]string{"", "["}, 5, "n u l t r e f a s"},
		{[]string{"", "-", "[92233720368547758", "-92233720368547758", "922337203685477580"}, 3, "0 6 7 8 9 , ] _"},
	} {
		pieces := strings.Fields(c.pieces)
		for i, piece := range pieces {
			pieces[i] = strings.ReplaceAll(piece, "_", " ")
		}
		said := map[api.Errno]int{}
		for _, ahead := range c.ahead {
			eachText(c.most, pieces, func(s string) { said[asPlain(t, ahead+s)]++ })
		}
		if said[api.OK] == 0 || said[api.ErrSyntax] == 0 {
			t.Errorf("%s: %v", c.pieces, said)
		}
	}
}

// Drawn texts

func drawnText(draw *rand.Rand) string {
	const some = "ab\"\\/\x00\x1f\n\x7f\x80\xff [{]}:,u0"
	var b []byte
	for range draw.Intn(5) {
		b = append(b, some[draw.Intn(len(some))])
	}
	return string(b)
}

func drawnNumber(draw *rand.Rand) int64 {
	edges := []int64{0, 1, -1, 10, most, most - 1, least, least + 1}
	if draw.Intn(2) == 0 {
		return edges[draw.Intn(len(edges))]
	}
	return int64(draw.Uint64()) >> draw.Intn(64)
}

// drawn is a right value with at most so many lists and objects within one another.
func drawn(draw *rand.Rand, deep int) api.Json {
	kind := draw.Intn(9)
	if deep == 0 {
		kind %= 4
	}
	switch kind {
	case 0:
		return null()
	case 1:
		return boolean(draw.Intn(2) == 0)
	case 2:
		return number(drawnNumber(draw))
	case 3:
		return text(drawnText(draw))
	}
	v := list()
	if kind%2 == 0 {
		v = object(nil)
	}
	for range draw.Intn(4) {
		name := drawnText(draw)
		if v.Kind == api.JsonList {
			v.L = append(v.L, drawn(draw, deep-1))
		} else if !strings.Contains(fmt.Sprintf("%q", v.Names), fmt.Sprintf("%q", name)) {
			v.Names, v.L = append(v.Names, name), append(v.L, drawn(draw, deep-1))
		}
	}
	return v
}

// wild is one of the texts that say a value: with blanks, and its bytes said in one way or another.
type wild struct {
	draw *rand.Rand
	b    strings.Builder
}

func wildText(draw *rand.Rand, v api.Json) string {
	w := &wild{draw: draw}
	w.value(v)
	return w.b.String()
}

func (w *wild) word(s string) {
	blank := func() {
		for w.draw.Intn(4) == 0 {
			w.b.WriteByte(" \t\n\r"[w.draw.Intn(4)])
		}
	}
	blank()
	w.b.WriteString(s)
	blank()
}

func (w *wild) value(v api.Json) {
	switch v.Kind {
	case api.JsonNull:
		w.word("null")
	case api.JsonBool:
		w.word(fmt.Sprint(v.B))
	case api.JsonNumber:
		s := fmt.Sprint(v.N)
		if v.N == 0 && w.draw.Intn(2) == 0 {
			s = "-0"
		}
		w.word(s)
	case api.JsonText:
		w.word(w.quoted(v.S))
	case api.JsonList:
		w.parts("[", v, "]")
	case api.JsonObject:
		w.parts("{", v, "}")
	}
}

func (w *wild) parts(begin string, v api.Json, end string) {
	w.word(begin)
	for i, x := range v.L {
		if i > 0 {
			w.word(",")
		}
		if v.Kind == api.JsonObject {
			w.word(w.quoted(v.Names[i]))
			w.word(":")
		}
		w.value(x)
	}
	w.word(end)
}

func (w *wild) quoted(s string) string {
	short := map[byte]string{'"': `\"`, '\\': `\\`, '/': `\/`, 8: `\b`, 12: `\f`, 10: `\n`, 13: `\r`, 9: `\t`}
	b := `"`
	for i := range len(s) {
		c := s[i]
		ways := []string{fmt.Sprintf(`\u00%02x`, c), fmt.Sprintf(`\u00%02X`, c)}
		if x, there := short[c]; there {
			ways = append(ways, x)
		}
		if c >= 32 && c != '"' && c != '\\' {
			ways = append(ways, s[i:i+1])
		}
		b += ways[w.draw.Intn(len(ways))]
	}
	return b + `"`
}

// spoilt is a text with one thing changed.
func spoilt(draw *rand.Rand, s string) string {
	const bytes = "[]{}:,\"\\u019-ntfe. \x00\x1f\x7f\xff"
	i := draw.Intn(len(s) + 1)
	j := min(i+draw.Intn(3), len(s))
	switch draw.Intn(5) {
	case 0:
		return s[:i]
	case 1:
		return s[:i] + s[j:]
	case 2:
		return s[:j] + s[i:]
	case 3:
		return s[:i] + bytes[draw.Intn(len(bytes)):][:1] + s[i:]
	}
	return s[:i] + bytes[draw.Intn(len(bytes)):][:1] + s[j:]
}

func TestDrawnTexts(t *testing.T) {
	draw := rand.New(rand.NewSource(20))
	said := map[api.Errno]int{}
	for range 40000 {
		v := drawn(draw, draw.Intn(6))
		for range draw.Intn(8) * draw.Intn(3) {
			v = list(v)
		}
		s := wildText(draw, v)
		if e := asPlain(t, s); e == api.OK {
			parses(t, s, v)
		}
		for range 3 {
			s = spoilt(draw, s)
			said[asPlain(t, s)]++
		}
	}
	if said[api.OK] < 1000 || said[api.ErrSyntax] < 1000 || said[api.ErrDeep] < 100 {
		t.Errorf("too few of a kind: %v", said)
	}
}

// Values of any bytes, words and numbers one behind the other.
func TestDrawnWords(t *testing.T) {
	draw := rand.New(rand.NewSource(21))
	words := strings.Fields("[ [ ] { } : : , , \" \" \"a\" \"b\" \"a\": \\ \\u00 0 -1 12 null true false nul -9223372036854775809 ä {\"c\":")
	for range 200000 {
		s := ""
		for range draw.Intn(24) {
			s += words[draw.Intn(len(words))]
		}
		asPlain(t, s)
	}
	for range 100000 {
		b := make([]byte, draw.Intn(6))
		draw.Read(b)
		asPlain(t, string(b))
		asPlain(t, `"`+string(b)+`"`)
	}
}
