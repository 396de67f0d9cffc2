package store_test

import (
	"fmt"
	"math"
	"strconv"
	"strings"
	"testing"

	"murmuration/api"
)

const most = math.MaxUint64

func number(s string) uint64 {
	if s == "most" {
		return most
	}
	n, err := strconv.ParseUint(s, 10, 64)
	if err != nil {
		panic(err)
	}
	return n
}

func integer(s string) int64 {
	n, err := strconv.ParseInt(s, 10, 64)
	if err != nil {
		panic(err)
	}
	return n
}

func dot(s string) api.Dot {
	actor, n, _ := strings.Cut(s, ".")
	return api.Dot{Actor: number(actor), N: number(n)}
}

// entry is written as the chapter does, actor.N, and (N,S,T) behind it, if they are not all nothing.
func entry(s string) api.Entry {
	id, rest, more := strings.Cut(s, "(")
	e := api.Entry{Dot: dot(id)}
	if more {
		parts := strings.Split(strings.TrimSuffix(rest, ")"), ",")
		e.N, e.S, e.T = integer(parts[0]), parts[1], number(parts[2])
	}
	return e
}

// name is a field's name, behind its kind, if that is not 0.
func name(s string) api.Field {
	text := strings.TrimLeft(s, "-0123456789")
	f := api.Field{Name: text}
	if kind := s[:len(s)-len(text)]; kind != "" {
		f.Kind = int(integer(kind))
	}
	return f
}

// at is a store as the chapter writes it, its own Norm or not: entries, and name:{store}.
func at(s string) api.Store {
	store, rest := parsed(s)
	if rest != "" {
		panic("behind a store: " + rest)
	}
	return store
}

func parsed(s string) (api.Store, string) {
	var store api.Store
	for s = strings.TrimLeft(s, " "); s != "" && s[0] != '}'; s = strings.TrimLeft(s, " ") {
		end := strings.IndexAny(s+" ", " :}")
		word := s[:end]
		if s = s[end:]; !strings.HasPrefix(s, ":{") {
			store.Entries = append(store.Entries, entry(word))
			continue
		}
		f := name(word)
		f.Store, s = parsed(s[len(":{"):])
		s = strings.TrimPrefix(s, "}")
		store.Fields = append(store.Fields, f)
	}
	return store, s
}

// path is written as its fields' names.
func path(s string) []api.Field {
	var l []api.Field
	for _, word := range strings.Fields(s) {
		l = append(l, name(word))
	}
	return l
}

// seen is a clock, as actor:N.
func seen(s string) api.Clock {
	var c api.Clock
	for _, word := range strings.Fields(s) {
		c = append(c, dot(strings.Replace(word, ":", ".", 1)))
	}
	return c
}

// told is a store just as it stands.
func told(s api.Store) string {
	var l []string
	for _, e := range s.Entries {
		l = append(l, fmt.Sprintf("%d.%d(%d,%q,%d)", e.Dot.Actor, e.Dot.N, e.N, e.S, e.T))
	}
	for _, f := range s.Fields {
		l = append(l, fmt.Sprintf("%d%q:%s", f.Kind, f.Name, told(f.Store)))
	}
	return "{" + strings.Join(l, " ") + "}"
}

func is(t *testing.T, what string, got api.Store, want string) {
	t.Helper()
	if g, w := told(got), told(at(want)); g != w {
		t.Errorf("%s: %s, want %s", what, g, w)
	}
}

// deep is a store within so many fields, the names of which are those of a path.
func deep(n int, s api.Store) api.Store {
	for range n {
		s = api.Store{Fields: []api.Field{{Kind: 6, Name: "d", Store: s}}}
	}
	return s
}

func down(n int) []api.Field {
	l := make([]api.Field, n)
	for i := range l {
		l[i] = api.Field{Kind: 6, Name: "d"}
	}
	return l
}

// wrong are stores that are not their own Norm, and what they are taken as.
var wrong = map[string]string{
	"2.1 1.1":                   "1.1 2.1",
	"1.2 1.1":                   "1.1 1.2",
	"2.1 1.2 1.1 2.0":           "1.1 1.2 2.1",
	"1.2 2.1 1.3":               "1.2 1.3 2.1",
	"most.1 0.most 0.1":         "0.1 0.most most.1",
	"1.10 1.9":                  "1.9 1.10",
	"9223372036854775808.1 1.1": "1.1 9223372036854775808.1",
	"1.9223372036854775808 1.1": "1.1 1.9223372036854775808",

	"1.1 1.1":                                 "1.1",
	"1.1(1,,0) 1.1(2,,0)":                     "1.1(2,,0)",
	"1.1(2,,0) 1.1(1,,0)":                     "1.1(2,,0)",
	"1.1(-1,,0) 1.1(-2,z,9)":                  "1.1(-1,,0)",
	"1.1(-1,z,9) 1.1":                         "1.1",
	"1.1(1,z,9) 1.1(2,a,1)":                   "1.1(2,a,1)",
	"1.1(1,a,1) 1.1(1,b,0)":                   "1.1(1,b,0)",
	"1.1(1,b,0) 1.1(1,a,1)":                   "1.1(1,b,0)",
	"1.1(1,a,1) 1.1(1,,9)":                    "1.1(1,a,1)",
	"1.1(0,ab,0) 1.1(0,a,9)":                  "1.1(0,ab,0)",
	"1.1(0,Z,0) 1.1(0,a,0)":                   "1.1(0,a,0)",
	"1.1(0,é,0) 1.1(0,z,0)":                   "1.1(0,é,0)",
	"1.1(0,9,0) 1.1(0,10,0)":                  "1.1(0,9,0)",
	"1.1(1,a,1) 1.1(1,a,2) 1.1(1,a,0)":        "1.1(1,a,2)",
	"1.1(1,a,9223372036854775808) 1.1(1,a,1)": "1.1(1,a,9223372036854775808)",
	"1.1(9223372036854775807,,0) 1.1(-9223372036854775808,z,9)": "1.1(9223372036854775807,,0)",
	"1.1(3,,0) 2.1 1.1(5,,0) 2.1(-1,z,0) 1.1(4,,0)":             "1.1(5,,0) 2.1",
	"1.2(1,,0) 1.1(2,,0) 1.2(3,,0) 1.1(1,,0)":                   "1.1(2,,0) 1.2(3,,0)",
	"1.0":                             "",
	"0.0":                             "",
	"most.0(9,z,9)":                   "",
	"1.0 1.1 2.0":                     "1.1",
	"1.0(9,z,9) 1.1(1,a,1)":           "1.1(1,a,1)",
	"x:{}":                            "",
	"1.1 x:{}":                        "1.1",
	"x:{1.0}":                         "",
	"x:{y:{} z:{1.0}}":                "",
	"w:{1.1} x:{y:{z:{}}} z:{2.1}":    "w:{1.1} z:{2.1}",
	"y:{1.1} x:{2.1}":                 "x:{2.1} y:{1.1}",
	"2a:{1.1} 1b:{2.1}":               "1b:{2.1} 2a:{1.1}",
	"10a:{1.1} 9a:{2.1}":              "9a:{2.1} 10a:{1.1}",
	"1a:{1.1} a:{2.1} -1a:{3.1}":      "-1a:{3.1} a:{2.1} 1a:{1.1}",
	"ab:{1.1} a:{2.1}":                "a:{2.1} ab:{1.1}",
	"a:{1.1} Z:{2.1} é:{3.1} z:{4.1}": "Z:{2.1} a:{1.1} z:{4.1} é:{3.1}",
	"x:{2.1 1.1}":                     "x:{1.1 2.1}",
	"x:{1.1} x:{2.1}":                 "x:{1.1 2.1}",
	"x:{2.1} x:{1.1}":                 "x:{1.1 2.1}",
	"x:{1.1} x:{1.1}":                 "x:{1.1}",
	"x:{1.1} x:{}":                    "x:{1.1}",
	"x:{1.1(2,,0)} y:{3.1} x:{1.1(3,,0)} x:{1.1(1,,0)}":             "x:{1.1(3,,0)} y:{3.1}",
	"x:{y:{1.1}} x:{y:{2.1} 3.1}":                                   "x:{3.1 y:{1.1 2.1}}",
	"x:{z:{1.1} y:{2.1}} x:{y:{2.1(1,,0)} z:{1.0}}":                 "x:{y:{2.1(1,,0)} z:{1.1}}",
	"x:{1.0} x:{y:{}} x:{}":                                         "",
	"1x:{1.1} 2x:{2.1} 1x:{3.1}":                                    "1x:{1.1 3.1} 2x:{2.1}",
	"x:{1.1} 1.1 y:{1.1}  1.1":                                      "1.1 x:{1.1} y:{1.1}",
	"a:{b:{c:{2.1 1.1 1.1(1,,0)}}} a:{b:{c:{d:{1.0}}}} a:{b:{3.0}}": "a:{b:{c:{1.1(1,,0) 2.1}}}",
}

var right = []string{
	"", "1.1", "0.1", "most.most", "1.1 1.2 2.1", "1.1(-5,text,7)", "x:{1.1}", "1.1 x:{1.1} y:{1.1}",
	"1.1 1.2(3,,0) -1x:{2.1} x:{1.1 y:{1.1 2.2}} xy:{2.1} 1a:{2.1} 6x:{5x:{4x:{3.3(0,u,0)}}}",
	"0.1(9223372036854775807,,most) 0.most(-9223372036854775808,,0) most.1",
}
