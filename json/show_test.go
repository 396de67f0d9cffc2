package json_test

import (
	"fmt"
	"strings"
	"testing"

	"murmuration/api"
	"murmuration/json"
)

// P20.1

func TestValuesAreShown(t *testing.T) {
	shows(t, null(), "null")
	shows(t, boolean(true), "true")
	shows(t, boolean(false), "false")
	shows(t, list(), "[]")
	shows(t, object(nil), "{}")
	shows(t, list(number(1), list(), object(nil), null()), "[1,[],{},null]")
	shows(t, object(called("a"), number(1)), `{"a":1}`)
	shows(t, object(called("b", "a", ""), number(1), text("x"), list(number(2), number(3))), `{"b":1,"a":"x","":[2,3]}`)
	shows(t, object(called("a"), object(called("a"), object(called("b"), boolean(true)))), `{"a":{"a":{"b":true}}}`)
	shows(t, list(api.Json{Kind: api.JsonObject, L: []api.Json{}, Names: []string{}}), "[{}]")
	shows(t, api.Json{Names: []string{}, L: []api.Json{}}, "null")
}

func TestNumbersAreShown(t *testing.T) {
	for _, c := range []struct {
		n    int64
		want string
	}{
		{0, "0"}, {1, "1"}, {-1, "-1"}, {10, "10"}, {-100, "-100"}, {most, "9223372036854775807"}, {least, "-9223372036854775808"},
	} {
		shows(t, number(c.n), c.want)
	}
}

func TestTextsAreShown(t *testing.T) {
	shows(t, text(""), `""`)
	shows(t, text(`a"b\c/d`), `"a\"b\\c/d"`)
	shows(t, text("\b\f\n\r\t"), `"\u0008\u000c\u000a\u000d\u0009"`)
	shows(t, text("\x00\x1f ~\x7f\x80\xab\xff"), `"\u0000\u001f ~\u007f\u0080\u00ab\u00ff"`)
	shows(t, text("é"), `"\u00c3\u00a9"`)
	shows(t, object(called("\"\n"), text("")), `{"\"\u000a":""}`)
}

func TestEachByteIsShown(t *testing.T) {
	for c := range 256 {
		s := string([]byte{byte(c)})
		want := s
		switch {
		case c == '"':
			want = `\"`
		case c == '\\':
			want = `\\`
		case c < 32 || c > 126:
			want = fmt.Sprintf(`\u00%02x`, c)
		}
		shows(t, text(s), `"`+want+`"`)
		shows(t, text("0"+s+"0"), `"0`+want+`0"`)
		shows(t, object(called(s), null()), `{"`+want+`":null}`)
	}
}

func TestDeepValuesAreShown(t *testing.T) {
	shows(t, nested(16, null()), strings.Repeat("[", 16)+"null"+strings.Repeat("]", 16))
	shows(t, nested(15, object(nil)), strings.Repeat("[", 15)+"{}"+strings.Repeat("]", 15))
}

func TestWrongValuesAreNotShown(t *testing.T) {
	for what, v := range wrongValues() {
		unshown(t, what, v)
	}
}

// What is within a list or an object must be right, too, wherever it stands.
func TestWrongPartsAreNotShown(t *testing.T) {
	for what, v := range wrongValues() {
		unshown(t, "a list with what is "+what, list(v))
		unshown(t, "a list at whose end is what is "+what, list(null(), list(), v))
		unshown(t, "an object with what is "+what, object(called("a"), v))
		unshown(t, "an object with, before others, what is "+what, object(called("a", "b"), v, null()))
		unshown(t, "lists with what is "+what, nested(5, v))
	}
}

// wrongValues are wrong in one thing each.
func wrongValues() map[string]api.Json {
	l := map[string]api.Json{
		"of Kind -1":                   {Kind: -1},
		"of Kind 6":                    {Kind: 6},
		"of the least Kind":            {Kind: least},
		"of the greatest Kind":         {Kind: most},
		"an object short of names":     object(called("a"), null(), null()),
		"an object without names":      object(nil, null()),
		"an object short of parts":     object(called("a", "b"), null()),
		"an object without parts":      object(called("a")),
		"an object with a name twice":  object(called("a", "b", "a"), null(), number(1), null()),
		"an object with no name twice": object(called("", ""), null(), null()),
		"lists too deep":               nested(17, null()),
		"a list too deep":              nested(16, list()),
		"an object too deep":           nested(16, object(nil)),
		"too deep at the end":          list(null(), nested(16, null())),
		"too deep in objects":          object(called("a", "b"), null(), object(called("c"), nested(15, null()))),
	}
	for kind := api.JsonNull; kind <= api.JsonObject; kind++ {
		with := func(what string, v api.Json) { v.Kind = kind; l[fmt.Sprintf("of Kind %d with %s", kind, what)] = v }
		if kind != api.JsonBool {
			with("a B", api.Json{B: true})
		}
		if kind != api.JsonNumber {
			with("an N", api.Json{N: 1})
			with("the least N", api.Json{N: least})
		}
		if kind != api.JsonText {
			with("an S", api.Json{S: "a"})
			with("an S of a byte 0", api.Json{S: "\x00"})
		}
		if kind != api.JsonList && kind != api.JsonObject {
			with("an L", api.Json{L: []api.Json{{}}})
			with("an L and Names", api.Json{L: []api.Json{{}}, Names: called("a")})
		}
		if kind != api.JsonObject {
			with("Names", api.Json{Names: called("a")})
			with("an empty name", api.Json{Names: called("")})
		}
	}
	l["a list with Names for all"] = api.Json{Kind: api.JsonList, L: []api.Json{{}}, Names: called("a")}
	return l
}

// A value that holds itself is too deep, however wide it is.
func TestValuesThatHoldThemselvesAreNotShown(t *testing.T) {
	l := make([]api.Json, 40)
	for i := range l {
		l[i] = list(l...)
	}
	unshown(t, "holding itself", list(l...))
	is(t, "Right", json.Right(l[7]), false)
}
