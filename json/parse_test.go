package json_test

import (
	"strings"
	"testing"

	"murmuration/api"
)

// P20.2

func TestTextsAreParsed(t *testing.T) {
	parses(t, "null", null())
	parses(t, "true", boolean(true))
	parses(t, "false", boolean(false))
	parses(t, "[]", list())
	parses(t, "{}", object(nil))
	parses(t, `[1,"a",[],{},null]`, list(number(1), text("a"), list(), object(nil), null()))
	parses(t, `{"b":1,"a":[2],"":{"b":3}}`, object(called("b", "a", ""), number(1), list(number(2)), object(called("b"), number(3))))
	parses(t, `{"a": [1, -2, true], "b": "x\u0041\n"}`, object(called("a", "b"), list(number(1), number(-2), boolean(true)), text("xA\n")))
}

func TestExampleIsShown(t *testing.T) {
	shows(t, object(called("a", "b"), list(number(1), number(-2), boolean(true)), text("xA\n")), `{"a":[1,-2,true],"b":"xA\u000a"}`)
}

func TestNumbersAreParsed(t *testing.T) {
	for _, c := range []struct {
		s string
		n int64
	}{
		{"0", 0}, {"-0", 0}, {"1", 1}, {"-1", -1}, {"9", 9}, {"10", 10}, {"1234567890", 1234567890},
		{"9223372036854775807", most}, {"-9223372036854775808", least}, {"-9223372036854775807", least + 1}, {"1000000000000000000", 1e18},
	} {
		parses(t, c.s, number(c.n))
		parses(t, "["+c.s+"]", list(number(c.n)))
		parses(t, " "+c.s+"\n", number(c.n))
	}
}

func TestNumbersThatAreNone(t *testing.T) {
	for _, c := range []struct {
		s  string
		at int
	}{
		{"-", 1}, {"--1", 1}, {"-x", 1}, {"- 1", 1}, {"+1", 0}, {".5", 0}, {"01", 1}, {"00", 1}, {"-01", 2}, {"-00", 2}, {"007", 1},
		{"1.5", 1}, {"1e3", 1}, {"1E3", 1}, {"0x1", 1}, {"1_000", 1}, {"1-1", 1}, {"1 1", 2}, {"1a", 1}, {"12\x00", 2},
		{"Infinity", 0}, {"NaN", 0}, {"-Infinity", 1}, {"١", 0},
	} {
		fails(t, c.s, c.at, api.ErrSyntax)
		fails(t, "["+c.s+"]", c.at+1, api.ErrSyntax)
		fails(t, " "+c.s, c.at+1, api.ErrSyntax)
	}
}

func TestNumbersThatAreTooGreat(t *testing.T) {
	for _, s := range []string{
		"9223372036854775808", "-9223372036854775809", "9223372036854775810", "10000000000000000000", "18446744073709551616",
		"-18446744073709551615", "18446744073709551617", "-10000000000000000000", strings.Repeat("9", 5000), "-1" + strings.Repeat("0", 5000),
	} {
		fails(t, s, 0, api.ErrSyntax)
		fails(t, " \t"+s, 2, api.ErrSyntax)
		fails(t, "[1, "+s+" ]", 4, api.ErrSyntax)
		fails(t, `{"a":`+s, 5, api.ErrSyntax)
		fails(t, s+"x", 0, api.ErrSyntax)
		fails(t, "["+s+"[[", 1, api.ErrSyntax)
	}
	fails(t, "[922337203685477580", 19, api.ErrSyntax)
	fails(t, "922337203685477580x", 18, api.ErrSyntax)
	fails(t, "[9223372036854775807", 20, api.ErrSyntax)
}

func TestQuotedTextsAreParsed(t *testing.T) {
	parses(t, `""`, text(""))
	parses(t, `"a b"`, text("a b"))
	parses(t, `"\"\\\/\b\f\n\r\t"`, text("\"\\/\x08\x0c\x0a\x0d\x09"))
	parses(t, `"/"`, text("/"))
	parses(t, `"\u0000\u001f\u0041\u007f\u0080\u00ff"`, text("\x00\x1fA\x7f\x80\xff"))
	parses(t, `"\u00aB\u00Ab\u00FF\u00fF\u0009"`, text("\xab\xab\xff\xff\t"))
	parses(t, `"\u00411"`, text("A1"))
	parses(t, "\"\x7f\x80\xff\xc3\xa9\"", text("\x7f\x80\xff\xc3\xa9"))
	parses(t, `"null[]{}:,"`, text("null[]{}:,"))
	parses(t, `"`+strings.Repeat("[", 40)+`"`, text(strings.Repeat("[", 40)))
	parses(t, `"`+strings.Repeat("x", 100000)+`"`, text(strings.Repeat("x", 100000)))
}

func TestEachByteInATextIsParsed(t *testing.T) {
	for c := range 256 {
		s := string([]byte{byte(c)})
		switch {
		case c < 32:
			fails(t, `"a`+s+`"`, 2, api.ErrSyntax)
		case c != '"' && c != '\\':
			parses(t, `"a`+s+`"`, text("a"+s))
		}
	}
}

func TestEachEscapeIsParsed(t *testing.T) {
	said := map[byte]string{'"': `"`, '\\': `\`, '/': "/", 'b': "\x08", 'f': "\x0c", 'n': "\x0a", 'r': "\x0d", 't': "\x09"}
	for c := range 256 {
		s := string([]byte{byte(c)})
		if want, there := said[byte(c)]; there {
			parses(t, `"a\`+s+`b"`, text("a"+want+"b"))
		} else if c != 'u' {
			fails(t, `"a\`+s+`b"`, 3, api.ErrSyntax)
		}
		if digit := strings.IndexByte("0123456789abcdef", strings.ToLower(s)[0]); digit >= 0 {
			parses(t, `"\u00`+s+`0"`, text(string([]byte{byte(digit) << 4})))
			parses(t, `"\u000`+s+`"`, text(string([]byte{byte(digit)})))
		} else {
			fails(t, `"\u00`+s+`0"`, 5, api.ErrSyntax)
			fails(t, `"\u000`+s+`"`, 6, api.ErrSyntax)
		}
		if c != '0' {
			fails(t, `"\u`+s+`000"`, 3, api.ErrSyntax)
			fails(t, `"\u0`+s+`00"`, 4, api.ErrSyntax)
		}
	}
}

func TestTextsThatEndTooEarly(t *testing.T) {
	for _, s := range []string{
		"", " ", "\n\t\r ", "n", "nu", "nul", "t", "tru", "f", "fals", "-", "[", "[ ", "[1", "[1 ", "[1,", "[1, ", "[[]", "[[],[]",
		"{", "{ ", `{"`, `{"a`, `{"a"`, `{"a" `, `{"a":`, `{"a": `, `{"a":1`, `{"a":1 `, `{"a":1,`, `{"a":1, `, `{"a":1,"`, `{"a":1,"a`, `{"a":1,"b"`, `{"a":{}`,
		`"`, `"a`, `"\`, `"\u`, `"\u0`, `"\u00`, `"\u001`, `"\u0012`, `"\"`, `["`, `[-`, `[n`,
	} {
		fails(t, s, len(s), api.ErrSyntax)
	}
}

func TestTextsThatAreNone(t *testing.T) {
	for _, c := range []struct {
		s  string
		at int
	}{
		{"nulL", 3}, {"Null", 0}, {"nil", 1}, {"nnull", 1}, {"nullx", 4}, {"n ull", 1}, {"TRUE", 0}, {"truth", 3}, {"true1", 4}, {"falsetrue", 5}, {"fa lse", 2},
		{"x", 0}, {"]", 0}, {"}", 0}, {",", 0}, {":", 0}, {"'a'", 0}, {"\\", 0}, {"\x00", 0}, {" \x0b1", 1}, {"\x0c1", 0}, {"\xef\xbb\xbf1", 0}, {"\u00a01", 0}, {"/**/1", 0}, {"1//", 1},
		{"1\x00", 1}, {"null\x00", 4}, {"[]\x00", 2}, {`"a"b`, 3}, {`"a""b"`, 3}, {"1 2", 2}, {"[1] x", 4}, {"[][]", 2}, {"{}{}", 2}, {"{},", 2}, {"[]]", 2}, {"{}}", 2}, {"1,", 1}, {"1:", 1},
		{"[1,]", 3}, {"[,]", 1}, {"[,1]", 1}, {"[1,,2]", 3}, {"[1 2]", 3}, {"[1:2]", 2}, {"[1}", 2}, {"[}", 1}, {"[1,}", 3}, {"[:", 1}, {`["a":1]`, 4}, {"[1,x", 3}, {"[\x00]", 1}, {"[1\x00]", 2},
		{"{]", 1}, {"{,}", 1}, {"{:}", 1}, {"{1:2}", 1}, {"{a:1}", 1}, {"{null:1}", 1}, {"{{}:1}", 1}, {"{[]:1}", 1}, {"{\x00", 1},
		{`{"a"}`, 4}, {`{"a",`, 4}, {`{"a" 1}`, 5}, {`{"a"::1}`, 5}, {`{"a":}`, 5}, {`{"a":,`, 5}, {`{"a":]`, 5}, {`{"a":1]`, 6}, {`{"a":1:`, 6}, {`{"a":1,}`, 7}, {`{"a":1,,`, 7}, {`{"a":1 "b":2}`, 7}, {`{"a":1,1`, 7}, {`{"a":1,null`, 7}, {`{"a":1,]`, 7}, {`{"a":1,{`, 7},
		{"\"a\nb\"", 2}, {"\"\x00\"", 1}, {"\"\x1f\"", 1}, {`"\x"`, 2}, {`"\U0041"`, 2}, {`"\ "`, 2}, {`"\u0100"`, 4}, {`"\u1000"`, 3}, {`"\u00g0"`, 5}, {`"\u000g"`, 6}, {`"\u00"`, 5}, {`"\u000"`, 6}, {`"\u 0041"`, 3},
		{`{"a\x":1}`, 4}, {"{\"a\n\":1}", 3},
	} {
		fails(t, c.s, c.at, api.ErrSyntax)
	}
}

func TestNamesThatStandThereAlready(t *testing.T) {
	for _, c := range []struct {
		s  string
		at int
	}{
		{`{"a":1,"a":2}`, 7}, {`{"a":1, "a":2}`, 8}, {`{"a":1,"b":2,"a":3}`, 13}, {`{"":1,"":2}`, 6}, {`{"a":1,"\u0061":2}`, 7}, {`{"\/":1,"/":2}`, 8},
		{`{"a":1,"a"`, 7}, {`{"a":1,"a"x`, 7}, {`{"a":1,"a":x`, 7}, {`{"a":1,"a" 1`, 7}, {`{"a":1,"b":2,"b":[[[[`, 13},
		{`{"a":{"b":1,"b":2}}`, 12}, {`[{"a":1},{"a":1,"a":1}]`, 16}, {`{"a":{"a":1},"a":1}`, 13},
		{"{\"\xff\":1,\"\\u00fF\":1}", 7},
	} {
		fails(t, c.s, c.at, api.ErrSyntax)
	}
	parses(t, `{"a":{"a":{"a":1}},"b":[{"a":1},{"a":2}]}`, object(called("a", "b"),
		object(called("a"), object(called("a"), number(1))),
		list(object(called("a"), number(1)), object(called("a"), number(2)))))
	parses(t, `{"a":1,"A":2,"a ":3,"":4}`, object(called("a", "A", "a ", ""), number(1), number(2), number(3), number(4)))
	fails(t, `{"a":1,"a\x":1}`, 10, api.ErrSyntax)
	fails(t, "{\"a\":1,\"a\n\":1}", 9, api.ErrSyntax)
}

func TestBlanksAreLeftOut(t *testing.T) {
	const s = "\t\n\r { \"a\" : [ 1 , { } , [ ] , null ] ,\r\n\"b\"\t:\ttrue } \n"
	want := object(called("a", "b"), list(number(1), object(nil), list(), null()), boolean(true))
	parses(t, s, want)
	for _, blank := range []string{"", " ", "\t", "\n", "\r", " \r\n\t "} {
		parses(t, strings.ReplaceAll("_{_\"a\"_:_[_1_,_{_}_,_[_]_,_null_]_,_\"b\"_:_true_}_", "_", blank), want)
	}
	parses(t, strings.Repeat(" ", 100000)+"1", number(1))
}

// Which bytes are blanks: those four alone, at each place where one may stand.
func TestNoOtherBytesAreBlanks(t *testing.T) {
	for c := range 256 {
		s := string([]byte{byte(c)})
		if strings.Contains(" \t\n\r", s) {
			continue
		}
		for _, ahead := range []string{"", "[1", `{"a"`, "{}", `{"a":1`} {
			if !strings.Contains(`0123456789-"[{]}:,tfn`, s) {
				fails(t, ahead+s, len(ahead), api.ErrSyntax)
			}
		}
	}
}

func TestDeepTextsAreParsed(t *testing.T) {
	parses(t, strings.Repeat("[", 16)+strings.Repeat("]", 16), nested(16, list()).L[0])
	parses(t, strings.Repeat(" [ ", 16)+"1"+strings.Repeat(" ] ", 16), nested(16, number(1)))
	parses(t, strings.Repeat(`{"a":`, 16)+"1"+strings.Repeat("}", 16), inObjects(16, number(1)))
	wide := "[" + strings.Repeat("[],", 100) + "{}]"
	v := list()
	for range 100 {
		v.L = append(v.L, list())
	}
	v.L = append(v.L, object(nil))
	parses(t, wide, v)
}

func inObjects(n int, v api.Json) api.Json {
	for range n {
		v = object(called("a"), v)
	}
	return v
}

func TestTextsThatAreTooDeep(t *testing.T) {
	lists := strings.Repeat("[", 16)
	objects := strings.Repeat(`{"a":`, 16)
	for _, c := range []struct {
		s  string
		at int
	}{
		{lists + "[", 16}, {lists + "{", 16}, {lists + "[]", 16}, {lists + "[" + strings.Repeat("]", 17), 16}, {lists + " \n[", 18}, {lists + `1,"[",{}`, 22},
		{objects + "{", 80}, {objects + "[", 80}, {objects + `{"a"`, 80}, {objects + "[x", 80}, {lists + "[x", 16}, {lists + "[" + "9223372036854775808", 16},
		{lists + "],[[", 19}, {strings.Repeat("[", 100), 16}, {strings.Repeat("[", 1<<20), 16}, {strings.Repeat("[[],", 50), 61},
	} {
		fails(t, c.s, c.at, api.ErrDeep)
	}
}

// The fault that stands first counts; where a bracket that is too deep may not stand at all, the syntax error is named first.
func TestFaultsThatStandFirst(t *testing.T) {
	lists := strings.Repeat("[", 16)
	fails(t, strings.Repeat("[", 15)+"x[[", 15, api.ErrSyntax)
	fails(t, "[1,]"+lists+"[", 3, api.ErrSyntax)
	fails(t, `{"a":1,"a":`+lists+"[", 7, api.ErrSyntax)
	fails(t, "[9223372036854775808,"+lists, 1, api.ErrSyntax)
	fails(t, lists+"[9223372036854775808", 16, api.ErrDeep)
	fails(t, lists+"x", 16, api.ErrSyntax)
	fails(t, lists+"1[", 17, api.ErrSyntax)
	fails(t, lists+"1{", 17, api.ErrSyntax)
	fails(t, lists, 16, api.ErrSyntax)
	fails(t, lists+"]]", 18, api.ErrSyntax)
	fails(t, strings.Repeat("[", 15)+"{[", 16, api.ErrSyntax)
	fails(t, strings.Repeat("[", 15)+"{{", 16, api.ErrSyntax)
	fails(t, strings.Repeat("[", 15)+"[],[],{[", 22, api.ErrSyntax)
	fails(t, strings.Repeat("[", 15)+`{"a"[`, 19, api.ErrSyntax)
	fails(t, strings.Repeat("[", 15)+`{"a":[`, 20, api.ErrDeep)
	fails(t, strings.Repeat("[", 15)+`{"a":1,[`, 22, api.ErrSyntax)
}
