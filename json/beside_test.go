package json_test

import (
	"fmt"
	"slices"
	"testing"

	"murmuration/api"
	"murmuration/json"
)

// P20.3

func TestRightValues(t *testing.T) {
	for _, v := range rightValues() {
		is(t, "Right of "+shown(v), json.Right(v), true)
	}
	is(t, "Right of empty lists that are not nil", json.Right(api.Json{Kind: api.JsonText, L: []api.Json{}, Names: []string{}}), true)
}

func TestWrongValues(t *testing.T) {
	for what, v := range wrongValues() {
		is(t, "Right of what is "+what, json.Right(v), false)
		is(t, "Right of a list with what is "+what, json.Right(list(null(), v)), false)
		is(t, "Right of an object with what is "+what, json.Right(object(called("a"), v)), false)
	}
}

// How deep a value may stand: 16 lists and objects are the most, whatever is in the last one.
func TestDeepValues(t *testing.T) {
	for _, v := range []api.Json{null(), boolean(true), number(1), text("a")} {
		for n := range 40 {
			is(t, fmt.Sprint(n, " lists around ", shown(v)), json.Right(nested(n, v)), n <= 16)
			is(t, fmt.Sprint(n, " objects around ", shown(v)), json.Right(inObjects(n, v)), n <= 16)
		}
	}
	for _, v := range []api.Json{list(), object(nil), list(null()), object(called("a"), null())} {
		for n := range 40 {
			is(t, fmt.Sprint(n, " lists around ", shown(v)), json.Right(nested(n, v)), n <= 15)
			is(t, fmt.Sprint(n, " objects around ", shown(v)), json.Right(inObjects(n, v)), n <= 15)
		}
	}
}

// unlike are values of which no two are the same, many of them not right.
func unlike() []api.Json {
	l := []api.Json{
		{Kind: -1}, {Kind: 6}, {B: true}, {N: 1}, {N: -1}, {S: "a"}, {S: "b"}, {L: []api.Json{{}}}, {Names: called("")}, {Names: called("a")},
		object(called("a"), null(), null()), object(called("a", "b"), null()), object(called("a", "a"), null(), number(1)),
		object(called("a", "b"), number(1), number(2)), object(called("b", "a"), number(1), number(2)), object(called("b", "a"), number(2), number(1)),
		list(number(1), number(2)), list(number(2), number(1)), list(number(1)), list(number(1), number(2), number(3)),
		nested(17, null()), nested(18, null()),
	}
	for _, v := range rightValues() {
		if !slices.ContainsFunc(l, func(x api.Json) bool { return shown(x) == shown(v) }) {
			l = append(l, v)
		}
	}
	return l
}

func TestValuesAreHeldAgainstEachOther(t *testing.T) {
	same := func(what string, a, b api.Json, want bool) {
		t.Helper()
		is(t, fmt.Sprintf("Same of %s: %s, %s", what, shown(a), shown(b)), json.Same(a, b), want)
	}
	for i, a := range unlike() {
		for j, b := range unlike() {
			same("these", a, b, i == j)
			same("them in lists", list(null(), a), list(null(), b), i == j)
			same("them before others", list(a, null()), list(b, null()), i == j)
			same("them in objects", object(called("a"), a), object(called("a"), b), i == j)
			same("them deep", nested(40, a), nested(40, b), i == j)
		}
	}
	same("a nil list and an empty one", list(), api.Json{Kind: api.JsonList, L: []api.Json{}, Names: []string{}}, true)
}

func TestElementsAreGot(t *testing.T) {
	ab := list(number(1), number(-2), boolean(true))
	v := object(called("a", "b", "", "c"), ab, text("x"), null(), object(called("a", "c"), number(7), object(called("a"), boolean(false))))
	has(t, v, v)
	has(t, v, ab, "a")
	has(t, v, text("x"), "b")
	has(t, v, null(), "")
	has(t, v, number(7), "c", "a")
	has(t, v, object(called("a"), boolean(false)), "c", "c")
	has(t, v, boolean(false), "c", "c", "a")
	lacks(t, v, "a", "x")
	lacks(t, v, "a", "a")
	lacks(t, v, "z")
	lacks(t, v, "z", "a")
	lacks(t, v, "c", "b")
	lacks(t, v, "c", "c", "a", "a")
	lacks(t, v, "c", "c", "c")
	lacks(t, v, "", "")
	lacks(t, v, "A")
	for _, x := range rightValues() {
		has(t, x, x)
		if x.Kind != api.JsonObject {
			lacks(t, x, "a")
			lacks(t, x, "")
		}
		for i, name := range x.Names {
			has(t, x, x.L[i], name)
			has(t, object(called("in"), x), x.L[i], "in", name)
		}
	}
}

// Values that are not right have elements by their names where there are any.
func TestElementsOfWrongValues(t *testing.T) {
	short := object(called("a", "b"), number(1))
	has(t, short, number(1), "a")
	lacks(t, short, "b")
	has(t, short, short)
	lacks(t, object(nil, number(1)), "")
	lacks(t, object(called("a")), "a")
	long := object(called("a"), number(1), number(2))
	has(t, long, number(1), "a")
	has(t, object(called("a"), api.Json{Kind: 9, N: 3}), api.Json{Kind: 9, N: 3}, "a")
	for kind := range 8 {
		if kind != api.JsonObject {
			lacks(t, api.Json{Kind: kind, Names: called("a"), L: []api.Json{number(1)}}, "a")
		}
	}
	has(t, inObjects(100, number(1)), number(1), slices.Repeat(called("a"), 100)...)
	lacks(t, inObjects(100, number(1)), slices.Repeat(called("a"), 101)...)
}

func TestObjectsAreMade(t *testing.T) {
	made := func(want api.Json, l ...api.Json) {
		t.Helper()
		is(t, fmt.Sprint("Object of ", shown(list(l...))), shown(json.Object(l...)), shown(want))
	}
	a, b, one, two := text("a"), text("b"), number(1), number(2)
	made(object(nil))
	made(object(nil), a)
	made(object(called("a"), one), a, one)
	made(object(called("a"), one), a, one, b)
	made(object(called("a", "b"), one, two), a, one, b, two)
	made(object(called("b", "a"), one, two), b, one, a, two)
	made(object(called("a"), one), a, one, a, two)
	made(object(called("a", "b"), one, two), a, one, a, two, b, two, b, one)
	made(object(called("a"), one), a, one, a)
	made(object(called("a", "b"), b, a), a, b, b, a)
	made(object(called("a"), a), a, a)
	made(object(called("a"), a), a, a, a, a)
	made(object(called(""), null()), text(""), null())
	made(object(called("\x00", "\xff"), list(), object(nil)), text("\x00"), list(), text("\xff"), object(nil))
	made(object(called("a"), one), a, one, one, a)
	made(object(called("b"), two), one, a, b, two)
	for _, x := range rightValues() {
		if x.Kind != api.JsonText {
			made(object(nil), x, one)
			made(object(called("a", "b"), one, two), a, one, x, b, b, two)
		}
		made(object(called("a"), x), a, x)
	}
	made(object(called("a"), api.Json{Kind: 6, N: 1}), a, api.Json{Kind: 6, N: 1})
	made(object(called("a"), one), api.Json{Kind: api.JsonText, S: "a", N: 1}, one)
	made(object(nil), api.Json{S: "a"}, one)
	made(object(called("a"), nested(40, one)), a, nested(40, one))
}

func TestObjectsOfManyNames(t *testing.T) {
	var l []api.Json
	want := object(nil)
	for i := range 3000 {
		name := fmt.Sprint(i % 2000)
		l = append(l, text(name), number(int64(i)))
		if i < 2000 {
			want.Names, want.L = append(want.Names, name), append(want.L, number(int64(i)))
		}
	}
	v := json.Object(l...)
	is(t, "Object", shown(v), shown(want))
	is(t, "Right", json.Right(v), true)
	has(t, v, number(1999), "1999")
	lacks(t, v, "2000")
}
