package store_test

import (
	"fmt"
	"slices"
	"testing"

	"murmuration/api"
	"murmuration/store"
)

// Norm, of the chapter's 'Words'

func TestNorm(t *testing.T) {
	for _, s := range right {
		is(t, "Norm of "+s, store.Norm(at(s)), s)
	}
	for s, want := range wrong {
		is(t, "Norm of "+s, store.Norm(at(s)), want)
	}
	is(t, "Norm of nil lists", store.Norm(api.Store{}), "")
	is(t, "Norm of empty lists", store.Norm(api.Store{Entries: []api.Entry{}, Fields: []api.Field{}}), "")
}

func TestNormOfNamesOfAnyBytes(t *testing.T) {
	var s api.Store
	names := []string{"\xff", "\x80", "", "\x00", "\x00\x00", "z", "a\x00", "a"}
	for _, name := range names {
		s.Fields = append(s.Fields, api.Field{Name: name, Store: at("1.1")})
	}
	var got []string
	for _, f := range store.Norm(s).Fields {
		got = append(got, f.Name)
	}
	if want := []string{"", "\x00", "\x00\x00", "a", "a\x00", "z", "\x80", "\xff"}; !slices.Equal(got, want) {
		t.Errorf("Norm's names: %q, want %q", got, want)
	}
}

func TestNormOfWhatIsDeep(t *testing.T) {
	for n := range api.MaxDeep + 1 {
		s := deep(n, at("1.1 2.1"))
		if got := store.Norm(s); told(got) != told(s) {
			t.Errorf("Norm within %d fields: %s", n, told(got))
		}
	}
	for _, n := range []int{9, 10, 16, 17, 100, 10000} {
		is(t, fmt.Sprint("Norm within ", n, " fields"), store.Norm(deep(n, at("1.1 2.1"))), "")
	}
	cut := store.Norm(deep(8, at("1.1 x:{2.1} y:{3.1}")))
	if want := deep(8, at("1.1")); told(cut) != told(want) {
		t.Errorf("Norm of fields within 8: %s", told(cut))
	}
	emptied := store.Norm(deep(5, at("1.1 x:{a:{b:{c:{2.1}}}} y:{a:{b:{2.1}}}")))
	if want := deep(5, at("1.1 y:{a:{b:{2.1}}}")); told(emptied) != told(want) {
		t.Errorf("Norm of fields that are empty behind the cut: %s", told(emptied))
	}
	both := api.Store{Fields: slices.Concat(deep(9, at("1.1")).Fields, deep(8, at("2.1")).Fields, deep(20, at("3.1")).Fields)}
	if got, want := store.Norm(both), deep(8, at("2.1")); told(got) != told(want) {
		t.Errorf("Norm of one field, thrice, of which two are too deep: %s", told(got))
	}
}

func TestNormOfMany(t *testing.T) {
	var s, want api.Store
	const size = 30000
	for i := range uint64(size) {
		d := api.Dot{Actor: i * 7919 % size / 4, N: i*7919%size%4 + 1}
		s.Entries = append(s.Entries, api.Entry{Dot: d, N: int64(i)}, api.Entry{Dot: d, N: -1}, api.Entry{Dot: api.Dot{Actor: i}, N: 1})
		s.Fields = append(s.Fields,
			api.Field{Kind: 4, Name: fmt.Sprintf("%06d", size-i), Store: at("1.1")},
			api.Field{Kind: 4, Name: "one", Store: api.Store{Entries: []api.Entry{{Dot: api.Dot{Actor: size - i, N: 1}}}}})
	}
	got := store.Norm(s)
	if len(got.Entries) != size || len(got.Fields) != size+1 || len(got.Fields[size].Store.Entries) != size {
		t.Fatalf("Norm of many: %d entries, %d fields", len(got.Entries), len(got.Fields))
	}
	for i, e := range got.Entries {
		if e.Dot != (api.Dot{Actor: uint64(i / 4), N: uint64(i%4 + 1)}) || e.N < 0 {
			t.Fatalf("Norm of many: %v is the %d. one", e, i)
		}
	}
	for i, f := range got.Fields[:size] {
		if f.Name != fmt.Sprintf("%06d", i+1) {
			t.Fatalf("Norm of many: %s is the %d. one", f.Name, i)
		}
	}
	if !store.Same(got, s) || store.Same(got, want) {
		t.Error("Same of many")
	}
}

// P7.1

func TestJoin(t *testing.T) {
	for _, x := range []struct{ a, ca, b, cb, want string }{
		{"1.1 2.1", "1:1 2:1", "2.1 3.1", "2:1 3:1", "1.1 2.1 3.1"},
		{"1.1", "1:1", "", "1:1", ""},
		{"1.1", "1:1", "2.1", "1:1 2:1", "2.1"},
		{"", "", "", "", ""},
		{"", "1:1", "", "2:2", ""},
		{"1.1", "1:1", "", "", "1.1"},
		{"1.2", "1:2", "", "1:1", "1.2"},
		{"1.2", "1:2", "", "1:3", ""},
		{"1.1 1.2 1.3", "1:3", "", "1:2", "1.3"},
		{"1.1 1.2 1.3", "1:3", "1.1", "1:2", "1.1 1.3"},
		{"1.1", "1:1", "", "2:9 0:9", "1.1"},
		{"1.1", "1:1", "", "2:9 1:1 1:0", ""},
		{"1.1", "1:1", "", "1:0", "1.1"},
		{"0.1 most.most", "", "", "most:18446744073709551614", "0.1 most.most"},
		{"0.1 most.most", "", "", "most:most", "0.1"},

		// Each one's clock counts for the other one's entries alone.
		{"1.1", "", "2.1", "", "1.1 2.1"},
		{"1.1", "1:1", "2.1", "2:1", "1.1 2.1"},
		{"1.1", "2:1", "2.1", "1:1", ""},
		{"1.1", "2:1", "2.1", "2:1", "1.1"},

		// If both have it, no clock counts; the greater one stays.
		{"1.1", "1:1", "1.1", "1:1", "1.1"},
		{"1.1(1,,0)", "1:1", "1.1(2,,0)", "1:1", "1.1(2,,0)"},
		{"1.1(1,z,9)", "", "1.1(2,a,1)", "", "1.1(2,a,1)"},
		{"1.1(1,b,1)", "1:1", "1.1(1,a,2)", "1:1", "1.1(1,b,1)"},
		{"1.1(1,a,1)", "1:1", "1.1(1,a,2)", "1:1", "1.1(1,a,2)"},
		{"1.1(-1,,0)", "1:1", "1.1", "1:1", "1.1"},

		// Fields: those of both Kind and Name alike.
		{"x:{1.1}", "1:1", "x:{2.1}", "2:1", "x:{1.1 2.1}"},
		{"x:{1.1}", "1:1", "x:{2.1}", "1:1 2:1", "x:{2.1}"},
		{"x:{1.1}", "1:1", "", "1:1", ""},
		{"x:{1.1}", "1:1", "y:{2.1}", "2:1", "x:{1.1} y:{2.1}"},
		{"x:{1.1}", "1:1", "y:{2.1}", "1:1 2:1", "y:{2.1}"},
		{"1x:{1.1}", "1:1", "2x:{1.1}", "1:1", ""},
		{"1x:{1.1}", "1:1", "2x:{2.1}", "2:1", "1x:{1.1} 2x:{2.1}"},
		{"x:{1.1}", "1:1", "1.1", "1:1", ""},
		{"x:{1.1}", "1:1", "1.1", "", "x:{1.1}"},
		{"1.1", "1:1", "x:{1.1}", "2:1", "1.1"},
		{"x:{1.1(1,,0)} y:{1.1(5,,0)}", "1:1", "x:{1.1(2,,0)} y:{1.1(4,,0)}", "1:1", "x:{1.1(2,,0)} y:{1.1(5,,0)}"},
		{"x:{y:{1.1 1.2}}", "1:2", "x:{y:{1.2} z:{2.1}}", "1:2 2:1", "x:{y:{1.2} z:{2.1}}"},
		{"x:{y:{z:{1.1}}} 3.1", "1:1 3:1", "x:{y:{2.1}}", "1:1 2:1", "3.1 x:{y:{2.1}}"},
		{"x:{y:{z:{1.1}}}", "1:1", "3.1", "1:1 3:1", "3.1"},

		// Neither stores nor clocks need be their own Norm.
		{"2.1 1.1 2.1(1,,0) 4.0", "2:1 1:1", "3.1 2.1(7,,0)", "3:1 2:0 2:1", "1.1 2.1(7,,0) 3.1"},
		{"x:{1.1} y:{} x:{2.1}", "", "y:{3.0} x:{2.1(1,,0)} x:{1.0}", "1:1 1:0", "x:{2.1(1,,0)}"},
		{"1.0", "", "1.0", "", ""},
	} {
		what := fmt.Sprintf("Join({%s}, %s, {%s}, %s)", x.a, x.ca, x.b, x.cb)
		is(t, what, store.Join(at(x.a), seen(x.ca), at(x.b), seen(x.cb)), x.want)
		is(t, what+", turned", store.Join(at(x.b), seen(x.cb), at(x.a), seen(x.ca)), x.want)
	}
}

func TestJoinOfWhatIsDeep(t *testing.T) {
	a, b := deep(8, at("1.1 2.1 x:{4.1}")), deep(8, at("2.1 3.1"))
	if got, want := store.Join(a, nil, b, seen("1:1")), deep(8, at("2.1 3.1")); told(got) != told(want) {
		t.Errorf("Join within 8 fields: %s", told(got))
	}
	if got, want := store.Join(deep(9, at("1.1")), nil, deep(8, at("2.1")), nil), deep(8, at("2.1")); told(got) != told(want) {
		t.Errorf("Join with what is too deep: %s", told(got))
	}
	is(t, "Join of what is too deep", store.Join(deep(9, at("1.1")), nil, deep(9, at("1.1")), nil), "")
}

// P7.2

func TestDrop(t *testing.T) {
	for _, x := range []struct{ s, c, want string }{
		{"1.1 x:{1.2 2.1}", "1:2", "x:{2.1}"},
		{"", "", ""},
		{"", "1:1", ""},
		{"1.1 x:{1.2 2.1}", "", "1.1 x:{1.2 2.1}"},
		{"1.1 x:{1.2 2.1}", "1:1", "x:{1.2 2.1}"},
		{"1.1 x:{1.2 2.1}", "1:2 2:1", ""},
		{"1.1 x:{1.2 2.1}", "2:9", "1.1 x:{1.2}"},
		{"1.1 x:{1.2 2.1}", "0:9 3:9", "1.1 x:{1.2 2.1}"},
		{"1.1 1.2 1.3 2.1", "1:2", "1.3 2.1"},
		{"1.1(9,z,9)", "1:1", ""},
		{"a:{b:{c:{1.1 2.1}}} d:{1.1}", "1:1", "a:{b:{c:{2.1}}}"},
		{"a:{b:{c:{1.1}} 2.1}", "1:1", "a:{2.1}"},
		{"x:{1.1} 2.1 x:{2.1} y:{} 1.1 3.0", "1:0 1:1", "2.1 x:{2.1}"},
		{"2.1 1.1(1,,0) 1.1", "3:1", "1.1(1,,0) 2.1"},
		{"0.1 most.most", "most:most 0:0", "0.1"},
		{"0.1 most.most", "most:18446744073709551614 0:1", "most.most"},
	} {
		is(t, fmt.Sprintf("Drop({%s}, %s)", x.s, x.c), store.Drop(at(x.s), seen(x.c)), x.want)
	}
	if got, want := store.Drop(deep(8, at("1.1 2.1")), seen("1:1")), deep(8, at("2.1")); told(got) != told(want) {
		t.Errorf("Drop within 8 fields: %s", told(got))
	}
	is(t, "Drop of all within 8 fields", store.Drop(deep(8, at("1.1 x:{2.1}")), seen("1:1")), "")
}

func TestAt(t *testing.T) {
	const s = "1.1 1x:{2.1 1y:{3.1}} 2x:{4.1} x:{5.1} y:{6.1}"
	for _, x := range []struct{ s, path, want string }{
		{s, "", "1.1 x:{5.1} y:{6.1} 1x:{2.1 1y:{3.1}} 2x:{4.1}"},
		{s, "1x", "2.1 1y:{3.1}"},
		{s, "1x 1y", "3.1"},
		{s, "2x", "4.1"},
		{s, "x", "5.1"},
		{s, "y", "6.1"},
		{s, "1y", ""},
		{s, "3x", ""},
		{s, "-1x", ""},
		{s, "z", ""},
		{s, "xx", ""},
		{s, "1x y", ""},
		{s, "1x 1y 1y", ""},
		{s, "1x 1x", ""},
		{s, "1y 1y", ""},
		{s, "z z z z z z z z z z", ""},
		{"", "", ""},
		{"", "x", ""},
		{"2.1 1.1 1.0", "", "1.1 2.1"},
		{"x:{2.1} x:{1.1 y:{}}", "x", "1.1 2.1"},
		{"x:{2.1} x:{1.1 y:{}}", "x y", ""},
		{"x:{y:{1.1}} x:{y:{1.1(1,,0)} y:{2.1}}", "x y", "1.1(1,,0) 2.1"},
	} {
		is(t, fmt.Sprintf("At({%s}, %s)", x.s, x.path), store.At(at(x.s), path(x.path)...), x.want)
	}
}

func TestAtOfWhatIsDeep(t *testing.T) {
	s := deep(8, at("1.1 x:{2.1}"))
	for n := range 9 {
		if got, want := store.At(s, down(n)...), deep(8-n, at("1.1")); told(got) != told(want) {
			t.Errorf("At of a path of %d: %s", n, told(got))
		}
	}
	is(t, "At of a path of 9", store.At(s, append(down(8), name("x"))...), "")
	for _, n := range []int{9, 10, 17, 1000} {
		is(t, fmt.Sprint("At of a path of ", n), store.At(deep(1000, at("1.1")), down(n)...), "")
		is(t, fmt.Sprint("At of a path of ", n), store.At(deep(8, at("1.1")), down(n)...), "")
	}
}

func TestSet(t *testing.T) {
	for _, x := range []struct{ s, part, path, want string }{
		{"1.1 x:{1.2 2.1}", "", "x", "1.1"},
		{"1.1 x:{1.2 2.1}", "3.1", "x y", "1.1 x:{1.2 2.1 y:{3.1}}"},
		{"1.1 x:{1.2 2.1}", "3.1", "x", "1.1 x:{3.1}"},
		{"1.1 x:{1.2 2.1}", "3.1", "", "3.1"},
		{"1.1 x:{1.2 2.1}", "", "", ""},
		{"", "1.1", "", "1.1"},
		{"", "", "", ""},
		{"", "", "x y z", ""},
		{"", "1.1", "x y z", "x:{y:{z:{1.1}}}"},
		{"1.1", "", "x", "1.1"},
		{"1.1", "2.0", "x", "1.1"},
		{"1.1", "y:{z:{}}", "x", "1.1"},
		{"m:{1.1}", "2.1", "a", "a:{2.1} m:{1.1}"},
		{"m:{1.1}", "2.1", "z", "m:{1.1} z:{2.1}"},
		{"m:{1.1}", "2.1", "1a", "m:{1.1} 1a:{2.1}"},
		{"m:{1.1}", "2.1", "-1z", "-1z:{2.1} m:{1.1}"},
		{"1x:{1.1} 2x:{1.2}", "2.1", "2x", "1x:{1.1} 2x:{2.1}"},
		{"1x:{1.1} 3x:{1.2}", "2.1", "2x", "1x:{1.1} 2x:{2.1} 3x:{1.2}"},
		{"1.1 x:{y:{z:{1.1}}}", "", "x y z", "1.1"},
		{"1.1 x:{y:{z:{1.1} 2.1}}", "", "x y z", "1.1 x:{y:{2.1}}"},
		{"1.1 x:{y:{z:{1.1} 2.1}}", "", "x y", "1.1"},
		{"1.1 x:{y:{z:{1.1} 2.1}}", "5.1 a:{6.1}", "x y", "1.1 x:{y:{5.1 a:{6.1}}}"},
		{"x:{1.1}", "1.1", "y", "x:{1.1} y:{1.1}"},
		{"x:{1.1(9,,0)}", "1.1(1,,0)", "x", "x:{1.1(1,,0)}"},

		// Neither of them need be its own Norm.
		{"x:{1.1} 2.1 1.1 x:{2.1}", "5.1", "x", "1.1 2.1 x:{5.1}"},
		{"x:{1.1 y:{7.1}} x:{y:{8.1} 2.1}", "5.1", "x y", "x:{1.1 2.1 y:{5.1}}"},
		{"z:{1.1} y:{} x:{2.1}", "2.1 1.1 1.1(1,,0) b:{1.1} a:{2.1} b:{2.1} c:{}", "y", "x:{2.1} y:{1.1(1,,0) 2.1 a:{2.1} b:{1.1 2.1}} z:{1.1}"},
		{"z:{1.1}", "2.1 1.1 1.0", "", "1.1 2.1"},
	} {
		is(t, fmt.Sprintf("Set({%s}, {%s}, %s)", x.s, x.part, x.path), store.Set(at(x.s), at(x.part), path(x.path)...), x.want)
	}
}

func TestSetOfWhatIsDeep(t *testing.T) {
	for n := range 9 {
		got := store.Set(at("1.1"), at("2.1"), down(n)...)
		want := store.Norm(at("2.1"))
		if n > 0 {
			want = deep(n, at("2.1"))
			want.Entries = at("1.1").Entries
		}
		if told(got) != told(want) {
			t.Errorf("Set by a path of %d: %s", n, told(got))
		}
	}
	got := store.Set(at("1.1"), at("2.1 x:{3.1}"), down(8)...)
	if want := store.Set(at("1.1"), at("2.1"), down(8)...); told(got) != told(want) {
		t.Errorf("Set of a field by a path of 8: %s", told(got))
	}
	is(t, "Set of what is too deep alone", store.Set(at("1.1"), deep(5, at("2.1")), down(4)...), "1.1")
	if got := store.Set(at(""), deep(5, at("2.1")), down(3)...); told(got) != told(deep(8, at("2.1"))) {
		t.Errorf("Set of what is just not too deep: %s", told(got))
	}
	for _, n := range []int{9, 10, 16, 1000} {
		is(t, fmt.Sprint("Set by a path of ", n), store.Set(at("x:{2.1 1.1}"), at("3.1"), down(n)...), "x:{1.1 2.1}")
		is(t, fmt.Sprint("Set of nothing by a path of ", n), store.Set(at("x:{2.1 1.1}"), at(""), down(n)...), "x:{1.1 2.1}")
		if got := store.Set(deep(8, at("1.1")), at(""), down(n)...); told(got) != told(deep(8, at("1.1"))) {
			t.Errorf("Set along a path of %d: %s", n, told(got))
		}
	}
	if got := store.Set(deep(8, at("1.1")), at("2.1"), down(8)...); told(got) != told(deep(8, at("2.1"))) {
		t.Errorf("Set within 8 fields: %s", told(got))
	}
	is(t, "Set of nothing within 8 fields", store.Set(deep(8, at("1.1")), at(""), down(8)...), "")
}

func TestPut(t *testing.T) {
	for _, x := range []struct{ s, e, path, want string }{
		{"", "1.1", "x y", "x:{y:{1.1}}"},
		{"", "1.1", "", "1.1"},
		{"1.1", "1.2", "x", "1.1 x:{1.2}"},
		{"1.1 x:{1.2}", "2.1", "x", "1.1 x:{1.2 2.1}"},
		{"1.1 x:{1.2}", "0.1", "x", "1.1 x:{0.1 1.2}"},
		{"1.1 x:{1.2}", "2.1", "", "1.1 2.1 x:{1.2}"},
		{"1.1 x:{1.2}", "2.1", "1x", "1.1 x:{1.2} 1x:{2.1}"},
		{"1.1 x:{1.2 y:{3.1}}", "2.1", "x", "1.1 x:{1.2 2.1 y:{3.1}}"},
		{"1.1 x:{1.2 y:{3.1}}", "2.1", "x y", "1.1 x:{1.2 y:{2.1 3.1}}"},
		{"1.1(5,,0)", "1.1(6,,0)", "", "1.1(6,,0)"},
		{"1.1(5,,0)", "1.1(4,z,9)", "", "1.1(5,,0)"},
		{"x:{1.1(5,a,1)}", "1.1(5,b,0)", "x", "x:{1.1(5,b,0)}"},
		{"x:{1.1(5,a,1)}", "1.1(5,a,2)", "x", "x:{1.1(5,a,2)}"},
		{"x:{1.1(5,a,1)}", "1.1(5,a,0)", "x", "x:{1.1(5,a,1)}"},
		{"x:{1.1(5,a,1)}", "1.1(6,,0)", "y", "x:{1.1(5,a,1)} y:{1.1(6,,0)}"},
		{"x:{1.1}", "1.0(9,z,9)", "x", "x:{1.1}"},
		{"x:{1.1}", "1.0", "", "x:{1.1}"},
		{"x:{1.1}", "1.0", "y z", "x:{1.1}"},
		{"", "1.0", "x", ""},
		{"2.1 1.1 x:{} 1.1(1,,0)", "1.1", "", "1.1(1,,0) 2.1"},
		{"x:{2.1} y:{1.0} x:{1.1}", "3.1(4,s,5)", "x", "x:{1.1 2.1 3.1(4,s,5)}"},
		{"", "most.most(-9223372036854775808,s,most)", "-1x", "-1x:{most.most(-9223372036854775808,s,most)}"},
	} {
		is(t, fmt.Sprintf("Put({%s}, %s, %s)", x.s, x.e, x.path), store.Put(at(x.s), entry(x.e), path(x.path)...), x.want)
	}
}

func TestPutOfWhatIsDeep(t *testing.T) {
	for n := range 9 {
		if got, want := store.Put(deep(n, at("1.1")), entry("2.1"), down(n)...), deep(n, at("1.1 2.1")); told(got) != told(want) {
			t.Errorf("Put by a path of %d: %s", n, told(got))
		}
	}
	for _, n := range []int{9, 10, 16, 1000} {
		is(t, fmt.Sprint("Put by a path of ", n), store.Put(at("x:{2.1 1.1}"), entry("3.1"), down(n)...), "x:{1.1 2.1}")
		if got, want := store.Put(deep(8, at("1.1")), entry("2.1"), down(n)...), deep(8, at("1.1")); told(got) != told(want) {
			t.Errorf("Put along a path of %d: %s", n, told(got))
		}
	}
}

func TestOfAPathKindAndNameCount(t *testing.T) {
	s := at("x:{1.1 y:{2.1}}")
	way := []api.Field{{Name: "x", Store: at("7.1 y:{8.1} z:{9.1}")}, {Name: "y", Store: at("7.2")}}
	is(t, "At", store.At(s, way...), "2.1")
	is(t, "Set", store.Set(s, at("3.1"), way...), "x:{1.1 y:{3.1}}")
	is(t, "Set of nothing", store.Set(s, at(""), way...), "x:{1.1}")
	is(t, "Set in an empty store", store.Set(at(""), at("3.1"), way...), "x:{y:{3.1}}")
	is(t, "Set of nothing in an empty store", store.Set(at(""), at(""), way...), "")
	is(t, "Put", store.Put(s, entry("3.1"), way...), "x:{1.1 y:{2.1 3.1}}")
	is(t, "Put in an empty store", store.Put(at(""), entry("3.1"), way...), "x:{y:{3.1}}")
}

// P7.3

func TestDots(t *testing.T) {
	for _, x := range []struct{ s, want string }{
		{"", ""},
		{"1.1 x:{1.2 2.1}", "1:1 1:2 2:1"},
		{"2.1 x:{1.1}", "1:1 2:1"},
		{"1.1 x:{1.1 y:{1.1}} y:{1.1}", "1:1"},
		{"1.2 x:{1.1 y:{1.3 0.9}} y:{1.2 0.10}", "0:9 0:10 1:1 1:2 1:3"},
		{"2.1 1.1 1.1(1,,0) x:{} 3.0 x:{2.0}", "1:1 2:1"},
		{"x:{4.1} x:{3.1} w:{4.1}", "3:1 4:1"},
		{"most.most x:{0.1 9223372036854775808.1}", "0:1 9223372036854775808:1 most:most"},
		{"10.1 9.1 9.10 9.9", "9:1 9:9 9:10 10:1"},
	} {
		if got := store.Dots(at(x.s)); !slices.Equal(got, seen(x.want)) {
			t.Errorf("Dots({%s}): %v, want %s", x.s, got, x.want)
		}
	}
	if got := store.Dots(deep(8, at("1.1 x:{2.1}"))); !slices.Equal(got, seen("1:1")) {
		t.Errorf("Dots within 8 fields: %v", got)
	}
	if got := store.Dots(deep(9, at("1.1"))); len(got) != 0 {
		t.Errorf("Dots within 9 fields: %v", got)
	}
}

func TestEmpty(t *testing.T) {
	for s, want := range wrong {
		if got := store.Empty(at(s)); got != (want == "") {
			t.Errorf("Empty({%s}): %v", s, got)
		}
	}
	for _, s := range right {
		if got := store.Empty(at(s)); got != (s == "") {
			t.Errorf("Empty({%s}): %v", s, got)
		}
	}
	for n := range 20 {
		if got := store.Empty(deep(n, at("1.1"))); got != (n > 8) {
			t.Errorf("Empty within %d fields: %v", n, got)
		}
		if !store.Empty(deep(n, at(""))) {
			t.Errorf("Empty of %d fields alone is false", n)
		}
	}
	if !store.Empty(api.Store{}) || !store.Empty(api.Store{Entries: []api.Entry{}, Fields: []api.Field{}}) {
		t.Error("Empty of nothing is false")
	}
}

func TestSame(t *testing.T) {
	unlike := []string{
		"", "1.1", "1.2", "2.1", "1.1 2.1", "1.1(1,,0)", "1.1(-1,,0)", "1.1(0,a,0)", "1.1(0,b,0)", "1.1(0,a,1)", "1.1(0,,1)",
		"x:{1.1}", "1x:{1.1}", "y:{1.1}", "xx:{1.1}", "x:{1.2}", "x:{1.1(1,,0)}", "x:{1.1} y:{1.1}", "1.1 x:{1.1}", "1.1 x:{2.1}", "x:{x:{1.1}}", "x:{1.1 x:{1.1}}", "x:{y:{1.1}}",
	}
	for i, a := range unlike {
		for j, b := range unlike {
			if got := store.Same(at(a), at(b)); got != (i == j) {
				t.Errorf("Same({%s}, {%s}): %v", a, b, got)
			}
		}
	}
	for s, norm := range wrong {
		if !store.Same(at(s), at(norm)) || !store.Same(at(norm), at(s)) || !store.Same(at(s), at(s)) {
			t.Errorf("Same({%s}, {%s}) is false", s, norm)
		}
		if store.Same(at(s+" 77.77"), at(norm)) {
			t.Errorf("Same({%s}, {%s}) with an entry more is true", s, norm)
		}
	}
	if !store.Same(deep(9, at("1.1")), at("")) || store.Same(deep(8, at("1.1")), deep(7, at("1.1"))) {
		t.Error("Same of what is deep")
	}
	if !store.Same(api.Store{}, api.Store{Entries: []api.Entry{}, Fields: []api.Field{}}) {
		t.Error("Same of nothing is false")
	}
}

func TestEachCallTakesTheNorm(t *testing.T) {
	other, c, e := at("1.1(2,,0) 2.2 x:{1.1(2,,0) y:{2.1}}"), seen("1:1 3:1"), entry("1.1(2,b,0)")
	for s, norm := range wrong {
		a, b := at(s), at(norm)
		for what, call := range map[string]func(s api.Store) api.Store{
			"Norm":         store.Norm,
			"Join":         func(s api.Store) api.Store { return store.Join(s, c, other, c) },
			"Join, second": func(s api.Store) api.Store { return store.Join(other, c, s, c) },
			"Drop":         func(s api.Store) api.Store { return store.Drop(s, c) },
			"Put":          func(s api.Store) api.Store { return store.Put(s, e) },
			"Put within":   func(s api.Store) api.Store { return store.Put(s, e, path("x y")...) },
			"At":           func(s api.Store) api.Store { return store.At(s) },
			"At within":    func(s api.Store) api.Store { return store.At(s, path("x")...) },
			"Set":          func(s api.Store) api.Store { return store.Set(s, other, path("x y")...) },
			"Set of it":    func(s api.Store) api.Store { return store.Set(other, s, path("x y")...) },
			"Set of all":   func(s api.Store) api.Store { return store.Set(other, s) },
			"Set of none":  func(s api.Store) api.Store { return store.Set(s, other, down(9)...) },
		} {
			if got, want := told(call(a)), told(call(b)); got != want {
				t.Errorf("%s of {%s}: %s, want %s", what, s, got, want)
			}
		}
		if got, want := store.Dots(a), store.Dots(b); !slices.Equal(got, want) {
			t.Errorf("Dots of {%s}: %v, want %v", s, got, want)
		}
	}
}
