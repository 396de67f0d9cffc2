package json_test

import (
	"fmt"
	"math"
	"strings"
	"testing"

	"murmuration/api"
	"murmuration/json"
)

const (
	most  = math.MaxInt64
	least = math.MinInt64
)

func is(t *testing.T, what string, got, want any) {
	t.Helper()
	if g, w := fmt.Sprint(got), fmt.Sprint(want); g != w {
		t.Errorf("%s: %.600s, want %.600s", what, g, w)
	}
}

// Values

func null() api.Json              { return api.Json{} }
func boolean(b bool) api.Json     { return api.Json{Kind: api.JsonBool, B: b} }
func number(n int64) api.Json     { return api.Json{Kind: api.JsonNumber, N: n} }
func text(s string) api.Json      { return api.Json{Kind: api.JsonText, S: s} }
func list(l ...api.Json) api.Json { return api.Json{Kind: api.JsonList, L: l} }

// object is laid by hand, not by the Object that is tested.
func object(names []string, l ...api.Json) api.Json {
	return api.Json{Kind: api.JsonObject, Names: names, L: l}
}

func called(names ...string) []string { return names }

// nested is a value within so many lists.
func nested(n int, v api.Json) api.Json {
	for range n {
		v = list(v)
	}
	return v
}

// allBytes is a text with each byte there is.
func allBytes() string {
	var b []byte
	for c := range 256 {
		b = append(b, byte(c))
	}
	return string(b)
}

// rightValues are some of each kind, with the edges of each.
func rightValues() []api.Json {
	return []api.Json{
		null(), boolean(false), boolean(true),
		number(0), number(1), number(-1), number(most), number(least),
		text(""), text("a"), text(allBytes()), text(`"`), text(`\`), text("null"),
		list(), list(null()), list(list(), list()), list(number(1), text("1"), boolean(true), null()),
		object(nil), object(called("a"), number(1)), object(called("", "a", allBytes()), null(), list(), object(nil)),
		object(called("b", "a"), object(called("b", "a"), number(1), number(2)), list(object(called("b"), text("x")))),
		nested(16, null()), nested(15, object(called("a"), text("b"))),
	}
}

// shown is a value just as it stands, but that a nil list is an empty one.
func shown(v api.Json) string {
	var b strings.Builder
	show(&b, v)
	return b.String()
}

func show(b *strings.Builder, v api.Json) {
	fmt.Fprintf(b, "{%d %v %d %q %q", v.Kind, v.B, v.N, v.S, v.Names)
	for _, x := range v.L {
		show(b, x)
	}
	b.WriteString("}")
}

// Calls

func shows(t *testing.T, v api.Json, want string) {
	t.Helper()
	s, e := json.Show(v)
	is(t, "Show of "+shown(v), fmt.Sprintf("%q %d", s, int(e)), fmt.Sprintf("%q 0", want))
}

func unshown(t *testing.T, what string, v api.Json) {
	t.Helper()
	s, e := json.Show(v)
	is(t, "Show of what is "+what, fmt.Sprintf("%q %d", s, int(e)), `"" 1`)
	is(t, "Right of what is "+what, json.Right(v), false)
}

func parses(t *testing.T, s string, want api.Json) {
	t.Helper()
	v, at, e := json.Parse(s)
	is(t, "Parse of "+s, fmt.Sprint(shown(v), at, int(e)), fmt.Sprint(shown(want), 0, 0))
}

func fails(t *testing.T, s string, at int, err api.Errno) {
	t.Helper()
	v, p, e := json.Parse(s)
	is(t, fmt.Sprintf("Parse of %.200q", s), fmt.Sprint(shown(v), " ", p, int(e)), fmt.Sprint(shown(null()), " ", at, int(err)))
}

func has(t *testing.T, v, want api.Json, names ...string) {
	t.Helper()
	x, there := json.Get(v, names...)
	is(t, fmt.Sprintf("Get %q of %s", names, shown(v)), fmt.Sprint(shown(x), there), fmt.Sprint(shown(want), true))
}

func lacks(t *testing.T, v api.Json, names ...string) {
	t.Helper()
	x, there := json.Get(v, names...)
	is(t, fmt.Sprintf("Get %q of %s", names, shown(v)), fmt.Sprint(shown(x), there), fmt.Sprint(shown(null()), false))
}
