package json_test

import (
	"slices"
	"testing"

	"murmuration/api"
	"murmuration/json"
)

// R3

// roomy is a value that shares nothing with the one it is like, and has room behind its lists in which something may be written by mistake.
func roomy(v api.Json) api.Json {
	l := []api.Json{}
	for _, x := range v.L {
		l = append(l, roomy(x))
	}
	v.L = append(l, text("behind"), text("behind"))[:len(l)]
	v.Names = append(slices.Clone(v.Names), "behind", "behind")[:len(v.Names)]
	return v
}

// whole is a value with what lies in its lists' room.
func whole(v api.Json) string {
	return shown(opened(v))
}

func opened(v api.Json) api.Json {
	v.Names = v.Names[:cap(v.Names)]
	v.L = slices.Clone(v.L[:cap(v.L)])
	for i, x := range v.L {
		v.L[i] = opened(x)
	}
	return v
}

// scribble is what an owner may do to a value: all that its lists reach is written over.
func scribble(v api.Json) {
	names, l := v.Names[:cap(v.Names)], v.L[:cap(v.L)]
	for i := range names {
		names[i] = "scribbled"
	}
	for i := range l {
		scribble(l[i])
		l[i] = text("scribbled")
	}
}

func memoryValues() []api.Json {
	l := append(rightValues(), unlike()...)
	for _, v := range l {
		l = append(l, object(called("a", "b"), v, list(v)))
	}
	return l
}

func TestValuesThatAreHandedInStay(t *testing.T) {
	for _, v := range memoryValues() {
		a, b := roomy(v), roomy(object(called("a"), v))
		wasA, wasB := whole(a), whole(b)
		json.Show(a)
		json.Right(a)
		json.Same(a, b)
		json.Same(b, b)
		json.Get(a, "a")
		json.Get(b, "a", "b")
		json.Object(text("x"), a, text("y"), b)
		handed := roomy(list(text("x"), a, text("y"), b, text("x"), a))
		was := whole(handed)
		json.Object(handed.L...)
		if whole(a) != wasA || whole(b) != wasB || whole(handed) != was {
			t.Fatalf("what was handed in: %s, was %s", whole(a), wasA)
		}
	}
}

func TestNamesThatAreHandedInStay(t *testing.T) {
	names := called("a", "b", "behind")
	has(t, object(called("a"), object(called("b"), number(1))), number(1), names[:2]...)
	is(t, "names", names, called("a", "b", "behind"))
}

// What is told stays as it is, whatever is done to what was handed in, and the other way round.
func TestWhatIsToldIsTheOwnersOwn(t *testing.T) {
	for _, v := range memoryValues() {
		in := roomy(object(called("a"), v))
		all, _ := json.Get(in)
		part, _ := json.Get(in, "a")
		made := json.Object(text("x"), in, text("y"), in.L[0])
		want := object(called("x", "y"), object(called("a"), v), v)
		scribble(all)
		is(t, "what was handed in to Get", whole(in), whole(roomy(object(called("a"), v))))
		is(t, "another answer of Get", shown(part), shown(v))
		is(t, "what Object told", shown(made), shown(want))
		scribble(made)
		is(t, "what was handed in to Object", whole(in), whole(roomy(object(called("a"), v))))
		made = json.Object(text("x"), in, text("y"), in.L[0])
		scribble(in)
		is(t, "what Get told", shown(part), shown(v))
		is(t, "what Object told again", shown(made), shown(want))
	}
}

func TestWhatIsParsedIsTheOwnersOwn(t *testing.T) {
	for _, v := range rightValues() {
		s := wrote(t, v)
		one, _, _ := json.Parse(s)
		two, _, _ := json.Parse(s)
		scribble(one)
		is(t, "another one", shown(two), shown(v))
		parses(t, s, v)
	}
}

// No two lists of one answer share any memory, though those that were handed in do.
func TestListsOfAnAnswerLieApart(t *testing.T) {
	v := object(called("a", "b"), list(number(1)), object(called("c"), text("d")))
	shared := object(called("x", "y", "z"), v, v, list(v, v))
	apart := func(what string, got api.Json) {
		t.Helper()
		is(t, what, shown(got), shown(shared))
		scribble(got.L[0])
		got.L[0] = null()
		scribble(got.L[2].L[1])
		got.L[2].L[1] = null()
		is(t, what+", what is left", shown(got), shown(object(shared.Names, null(), v, list(v, null()))))
	}
	got, _ := json.Get(shared)
	apart("Get", got)
	got, _ = json.Get(object(called("in"), shared), "in")
	apart("Get of a name", got)
	apart("Object", json.Object(text("x"), v, text("y"), v, text("z"), shared.L[2]))
	got, _, _ = json.Parse(wrote(t, shared))
	apart("Parse", got)
}
