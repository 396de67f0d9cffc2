package kinds_test

import (
	"fmt"
	"math"
	"testing"

	"murmuration/api"
	"murmuration/kinds"
)

func count(n int64) api.Value { return api.Value{Kind: api.KindCounter, N: n} }
func flag(b bool) api.Value   { return api.Value{Kind: api.KindFlag, B: b} }
func held(s string) api.Value { return api.Value{Kind: api.KindRegister, B: true, S: s} }
func fields(l ...any) api.Value {
	v := api.Value{Kind: api.KindMap}
	for i := 0; i < len(l); i += 2 {
		v.Fields = append(v.Fields, api.Named{Name: l[i].(string), Value: l[i+1].(api.Value)})
	}
	return v
}

// P8.3

func TestTell(t *testing.T) {
	mixed := of(timed(1, 1, "a", 5), number(1, 2, 3), api.Entry{Dot: api.Dot{Actor: 2, N: 1}, N: 4, S: "b", T: 5}, field(-1, "n", mark(1, 1)), field(0, "x", number(1, 1, 7)), field(1, "o", text(1, 1, "t")), field(7, "k", mark(1, 1)))
	for _, x := range []struct {
		what string
		s    api.Store
		want api.Value
	}{
		{"nothing", of(), value(1)},
		{"one", of(text(1, 1, "a")), value(1, "a")},
		{"an empty one", of(mark(1, 1)), value(1, "")},
		{"by their dots", of(text(1, 1, "z"), text(1, 2, "a"), text(2, 1, "m"), text(10, 1, "b")), value(1, "z", "a", "m", "b")},
		{"the same twice", of(text(1, 1, "a"), text(2, 1, "a")), value(1, "a", "a")},
		{"the texts alone", mixed, value(1, "a", "", "b")},

		{"nothing", of(), count(0)},
		{"some", of(number(1, 1, 5), number(1, 2, -7), number(2, 1, 1)), count(-1)},
		{"the same twice", of(number(1, 1, 5), number(2, 1, 5)), count(10)},
		{"beyond the end", of(number(1, 1, math.MaxInt64), number(1, 2, 1)), count(math.MinInt64)},
		{"beyond the other end", of(number(1, 1, math.MinInt64), number(1, 2, -1)), count(math.MaxInt64)},
		{"both ends", of(number(1, 1, math.MinInt64), number(1, 2, math.MinInt64), number(1, 3, 5)), count(5)},
		{"the numbers alone", mixed, count(7)},

		{"nothing", of(), flag(false)},
		{"one", of(mark(1, 1)), flag(true)},
		{"fields alone", of(field(0, "x", mark(1, 1)), field(3, "f", mark(1, 1))), flag(false)},
		{"entries alone", mixed, flag(true)},

		{"nothing", of(), value(4)},
		{"an empty one", of(field(0, "", mark(1, 1))), value(4, "")},
		{"some", of(field(0, "", mark(1, 1)), field(0, "a", mark(1, 1)), field(0, "ab", mark(2, 1), mark(3, 1)), field(0, "b", mark(1, 1)), field(0, "\xff", mark(1, 1))), value(4, "", "a", "ab", "b", "\xff")},
		{"entries alone", of(mark(1, 1)), value(4)},
		{"an element that has but fields", of(field(0, "x", field(2, "y", mark(1, 1)))), value(4, "x")},
		{"fields of Kind 0 alone", mixed, value(4, "x")},

		{"nothing", of(), api.Value{Kind: 5}},
		{"one", of(timed(1, 1, "a", 1)), held("a")},
		{"an empty one", of(mark(1, 1)), held("")},
		{"the greatest time first", of(timed(1, 1, "a", 9), timed(2, 1, "z", 1)), held("a")},
		{"the greatest time last", of(timed(1, 1, "z", 1), timed(2, 1, "a", 9)), held("a")},
		{"the greatest time between", of(timed(1, 1, "z", 1), timed(1, 2, "a", 9), timed(2, 1, "y", 8)), held("a")},
		{"the last one of the greatest time", of(timed(1, 1, "z", 9), timed(1, 2, "a", 9), timed(2, 1, "b", 8)), held("a")},
		{"the last one of no time", of(text(1, 1, "z"), text(1, 2, "a"), text(2, 1, "")), held("")},
		{"times beyond 2^63", of(timed(1, 1, "a", most), timed(2, 1, "b", 1<<63), timed(3, 1, "c", math.MaxInt64)), held("a")},
		{"entries alone", mixed, held("b")},

		{"nothing", of(), fields()},
		{"entries alone", of(mark(1, 1)), fields()},
		{"fields of the kinds 2 to 6 alone", mixed, fields()},
		{"one of each kind", of(field(2, "c", number(1, 1, 4)), field(3, "f", mark(1, 1)), field(4, "s", field(0, "x", mark(1, 1))), field(5, "r", timed(1, 1, "u", 2)), field(6, "m", field(2, "c", number(1, 1, 5)))), fields("c", count(4), "f", flag(true), "s", value(4, "x"), "r", held("u"), "m", fields("c", count(5)))},
		{"by kinds, then names", of(field(2, "z", number(1, 1, 4)), field(3, "", mark(1, 1)), field(3, "a", mark(1, 1)), field(4, "a", field(0, "x", mark(1, 1)))), fields("z", count(4), "", flag(true), "a", flag(true), "a", value(4, "x"))},
		{"fields without anything of their kind", of(field(2, "c", field(0, "x", mark(1, 1))), field(3, "f", field(3, "x", mark(1, 1))), field(4, "s", mark(1, 1)), field(5, "r", field(5, "x", mark(1, 1))), field(6, "m", mark(1, 1))), fields("c", count(0), "f", flag(false), "s", value(4), "r", api.Value{Kind: 5}, "m", fields())},
	} {
		is(t, fmt.Sprint("Tell of kind ", x.want.Kind, ", ", x.what), kinds.Tell(x.want.Kind, x.s), x.want)
		if x.want.Kind != api.KindObject {
			within := api.Field{Kind: x.want.Kind, Name: "in", Store: x.s}
			want := fields("in", x.want)
			if len(x.s.Entries)+len(x.s.Fields) == 0 {
				want = fields()
			}
			is(t, "Tell within a map, "+x.what, kinds.Tell(api.KindMap, of(within)), want)
		}
	}
}

func TestTellOfNoKind(t *testing.T) {
	full := of(api.Entry{Dot: api.Dot{Actor: 1, N: 1}, N: 4, S: "b", T: 5}, field(0, "x", mark(1, 1)), field(2, "c", number(1, 1, 7)))
	for _, kind := range someKinds {
		if kind >= 1 && kind <= 6 {
			continue
		}
		is(t, "Tell of no kind", kinds.Tell(kind, full), api.Value{Kind: kind})
		is(t, "Tell of no kind, nothing", kinds.Tell(kind, of()), api.Value{Kind: kind})
		is(t, "Tell of a field of no kind", kinds.Tell(6, of(api.Field{Kind: kind, Name: "in", Store: full})), fields())
	}
}

func TestTellOfWhatIsDeep(t *testing.T) {
	for n := 1; n <= 10; n++ {
		got := kinds.Tell(6, deep(n, 2, number(1, 1, 9)))
		want := count(9)
		for range n {
			want = fields("d", want)
		}
		if n > 8 {
			want = fields()
		}
		is(t, fmt.Sprint("Tell within ", n, " fields"), got, want)
	}
	is(t, "Tell of elements within 9 fields", kinds.Tell(6, deep(8, 4, field(0, "x", mark(1, 1)))), fields())
}

// Stores that are not their own Norm are taken as that.
func TestTellTakesTheNorm(t *testing.T) {
	is(t, "an object", kinds.Tell(1, of(text(2, 1, "b"), text(1, 1, "a"), text(2, 1, "c"), text(0, 0, "n"))), value(1, "a", "c"))
	is(t, "a counter", kinds.Tell(2, of(number(2, 1, 4), number(1, 1, 1), number(2, 1, 6), number(1, 0, 9))), count(7))
	is(t, "a flag", kinds.Tell(3, of(mark(1, 0))), flag(false))
	is(t, "a set", kinds.Tell(4, of(field(0, "b", mark(1, 1)), field(0, "c"), field(0, "a", mark(1, 1)), field(0, "b", mark(2, 1)), field(0, "d", mark(1, 0)))), value(4, "a", "b"))
	is(t, "a register", kinds.Tell(5, of(timed(2, 1, "z", 5), timed(1, 1, "a", 5))), held("z"))
	is(t, "a register's greater entry", kinds.Tell(5, of(timed(1, 1, "z", 1), timed(1, 1, "a", 9), timed(2, 1, "b", 4))), held("b"))
	is(t, "a register of no event", kinds.Tell(5, of(timed(1, 0, "z", 1))), api.Value{Kind: 5})
	is(t, "a map", kinds.Tell(6, of(field(3, "f", mark(1, 1)), field(2, "c", number(1, 1, 4)), field(5, "r", mark(1, 0)), field(2, "c", number(1, 2, 5)), field(6, "m", field(6, "m")))), fields("c", count(9), "f", flag(true)))
}

func TestSame(t *testing.T) {
	unlike := []api.Value{
		{}, {Kind: 1}, {Kind: 2}, {Kind: -1}, {N: 1}, {N: -1}, {N: math.MinInt64}, {B: true}, {S: "a"}, {S: "b"}, {S: "ab"}, {Kind: 5, B: true, S: "a"}, {Kind: 5, S: "a"},
		{L: []string{""}}, {L: []string{"a"}}, {L: []string{"b"}}, {L: []string{"a", "b"}}, {L: []string{"b", "a"}}, {L: []string{"a", "a"}}, {L: []string{"ab"}}, {Kind: 1, L: []string{"a"}}, {Kind: 4, L: []string{"a"}},
		fields("", api.Value{}), fields("a", api.Value{}), fields("a", count(1)), fields("a", count(2)), fields("b", count(1)), fields("a", count(1), "b", count(1)), fields("b", count(1), "a", count(1)), fields("a", count(1), "a", count(1)),
		fields("m", fields("a", count(1))), fields("m", fields("a", count(2))), fields("m", fields("b", count(1))), fields("m", fields()), fields("m", fields("a", value(4, "x"))), fields("m", fields("a", value(4, "y"))),
		{Fields: fields("a", count(1)).Fields}, {Kind: 6, N: 1, Fields: fields("a", count(1)).Fields}, {Kind: 6, L: []string{"a"}, Fields: fields("a", count(1)).Fields},
	}
	for i, a := range unlike {
		for j, b := range unlike {
			if got := kinds.Same(a, b); got != (i == j) {
				t.Errorf("Same of %s and %s: %v", told(a), told(b), got)
			}
			x, y := fields("c", count(1), "in", a), fields("c", count(1), "in", b)
			if got := kinds.Same(x, y); got != (i == j) {
				t.Errorf("Same of %s and %s: %v", told(x), told(y), got)
			}
		}
	}
	if !kinds.Same(api.Value{}, api.Value{L: []string{}, Fields: []api.Named{}}) {
		t.Error("Same of nil and empty lists is false")
	}
	if !kinds.Same(fields("a", fields("b", value(4, "x"))), fields("a", fields("b", value(4, "x")))) {
		t.Error("Same of the same, made twice, is false")
	}
}

func TestSameOfWhatIsDeep(t *testing.T) {
	a, b, c := count(1), count(1), count(2)
	for range 1 << 15 {
		a, b, c = fields("d", a), fields("d", b), fields("d", c)
	}
	if !kinds.Same(a, b) || kinds.Same(a, c) || kinds.Same(a, a.Fields[0].Value) {
		t.Error("Same of what is deep")
	}
}
