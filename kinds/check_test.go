package kinds_test

import (
	"fmt"
	"math"
	"slices"
	"strings"
	"testing"

	"murmuration/api"
	"murmuration/kinds"
)

var (
	someKinds = []int{math.MinInt, -6, -1, 0, 1, 2, 3, 4, 5, 6, 7, 8, 12, 1 << 32, 1<<32 + 4, math.MaxInt}
	someOps   = []int{math.MinInt, -1, 0, 1, 2, 3, 4, 5, 6, 7, 8, 9, 10, 11, 1 << 32, 1<<32 + 3, math.MaxInt}
)

// whose are the kinds that an operation is for, as the chapter lists them; that of a Delete has no path.
var whose = map[int][]int{
	api.OpPut:     {api.KindObject},
	api.OpDelete:  {api.KindObject, api.KindCounter, api.KindFlag, api.KindSet, api.KindRegister, api.KindMap},
	api.OpAdd:     {api.KindCounter},
	api.OpEnable:  {api.KindFlag},
	api.OpDisable: {api.KindFlag},
	api.OpInsert:  {api.KindSet},
	api.OpRemove:  {api.KindSet},
	api.OpAssign:  {api.KindRegister},
	api.OpDrop:    {api.KindMap},
}

var fieldKinds = []int{api.KindCounter, api.KindFlag, api.KindSet, api.KindRegister, api.KindMap}

// checks says what Check tells, and that Apply tells the same.
func checks(t *testing.T, kind int, u api.Update, want api.Errno) {
	t.Helper()
	if got := kinds.Check(kind, u); got != want {
		t.Errorf("Check of kind %d, operation %d, path of %d, Kind %d: %d, want %d", kind, u.Op, len(u.Path), u.Kind, int(got), int(want))
	}
	x := event{api.Dot{Actor: 1, N: 1}, nil, u}
	if want == api.OK {
		applied(t, kind, of(), x)
	} else {
		refused(t, kind, of(mark(1, 1), field(6, "d", mark(1, 1))), x, want)
	}
}

func wanted(may bool) api.Errno {
	if may {
		return api.OK
	}
	return api.ErrKind
}

// P8.1

func TestEachKindWithEachOperation(t *testing.T) {
	for _, kind := range someKinds {
		for _, o := range someOps {
			checks(t, kind, api.Update{Op: o, Kind: api.KindSet}, wanted(slices.Contains(whose[o], kind)))
		}
	}
}

func TestTheKindThatIsDropped(t *testing.T) {
	for _, kind := range someKinds {
		may := wanted(slices.Contains(fieldKinds, kind))
		checks(t, api.KindMap, dropping(kind, "x"), may)
		checks(t, api.KindMap, in(dropping(kind, "x"), down(3, api.KindMap)...), may)
		checks(t, api.KindMap, in(dropping(kind, "x"), down(7, api.KindMap)...), may)
		checks(t, api.KindSet, dropping(kind, "x"), api.ErrKind)
		checks(t, api.KindMap, in(dropping(kind, "x"), down(3, api.KindSet)...), api.ErrKind)
		checks(t, api.KindSet, api.Update{Op: api.OpInsert, Kind: kind}, api.OK) // of another operation it does not count
		checks(t, api.KindMap, in(api.Update{Op: api.OpAdd, Kind: kind}, down(1, api.KindCounter)...), api.OK)
	}
}

func TestPathsOfEachLengthWithEachKind(t *testing.T) {
	for _, n := range []int{1, 2, 6, 7, 8, 9, 16, 1000} {
		for _, last := range someKinds {
			for _, o := range someOps {
				u := in(api.Update{Op: o, Kind: api.KindFlag}, down(n, last)...)
				may := n <= 7 && slices.Contains(fieldKinds, last) && slices.Contains(whose[o], last) && o != api.OpDelete
				for _, kind := range someKinds {
					checks(t, kind, u, wanted(may && kind == api.KindMap))
				}
			}
		}
	}
}

func TestPathsThroughOthersThanMaps(t *testing.T) {
	for n := 2; n <= 7; n++ {
		for through := range n - 1 {
			for _, other := range someKinds {
				for _, last := range fieldKinds {
					path := down(n, last)
					path[through].Kind = other
					for o, l := range whose {
						may := other == api.KindMap && slices.Contains(l, last) && o != api.OpDelete
						checks(t, api.KindMap, in(api.Update{Op: o, Kind: 2}, path...), wanted(may))
					}
				}
			}
		}
	}
}

func TestTheTargetsKindIsTheLastFields(t *testing.T) {
	checks(t, api.KindMap, in(add(1), field(6, "m"), field(2, "c")), api.OK)
	checks(t, api.KindMap, in(add(1), field(6, "m")), api.ErrKind)
	checks(t, api.KindMap, add(1), api.ErrKind)
	checks(t, api.KindCounter, in(add(1), field(2, "c")), api.ErrKind)
	checks(t, api.KindObject, in(put("a"), field(1, "o")), api.ErrKind)
	checks(t, api.KindMap, in(put("a"), field(1, "o")), api.ErrKind)
	checks(t, api.KindMap, in(insert("a"), field(0, "o")), api.ErrKind)
	checks(t, api.KindSet, in(insert("a"), []api.Field{}...), api.OK)
	checks(t, api.KindMap, in(op(api.OpDelete), field(2, "c")), api.ErrKind)
	checks(t, api.KindMap, in(op(api.OpDelete), field(6, "m")), api.ErrKind)
}

// longest is how many bytes S may have.
func longest(o int) int {
	if o == api.OpPut {
		return 20000
	}
	return 1000
}

func TestTextsAtTheirLimits(t *testing.T) {
	for o, l := range whose {
		for _, kind := range l {
			u := api.Update{Op: o, Kind: api.KindCounter}
			for n, want := range map[int]api.Errno{0: api.OK, longest(o): api.OK, longest(o) + 1: api.ErrSize, 100000: api.ErrSize} {
				u.S = strings.Repeat("x", n)
				checks(t, kind, u, want)
				if kind != api.KindObject && o != api.OpDelete {
					checks(t, api.KindMap, in(u, down(1, kind)...), want)
					checks(t, api.KindMap, in(u, down(7, kind)...), want)
				}
			}
		}
	}
	checks(t, api.KindSet, insert(strings.Repeat("é", 500)), api.OK) // bytes, not letters
	checks(t, api.KindSet, insert(strings.Repeat("é", 501)), api.ErrSize)
	checks(t, api.KindSet, insert(strings.Repeat("\xff", 1000)), api.OK)
}

func TestPathsNamesAtTheirLimits(t *testing.T) {
	for n := 1; n <= 7; n++ {
		for i := range n {
			for size, want := range map[int]api.Errno{0: api.OK, 999: api.OK, 1000: api.OK, 1001: api.ErrSize, 20000: api.ErrSize} {
				path := down(n, api.KindSet)
				path[i].Name = strings.Repeat("n", size)
				checks(t, api.KindMap, in(insert("x"), path...), want)
				checks(t, api.KindMap, in(remove("x"), path...), want)
			}
		}
	}
}

// What a path's fields have in their stores does not count.
func TestOfAPathKindAndNameCount(t *testing.T) {
	full := field(2, "c", mark(7, 7), field(4, strings.Repeat("x", 2000), mark(8, 8)))
	checks(t, api.KindMap, in(add(1), full), api.OK)
	got := applied(t, api.KindMap, of(field(2, "c", number(1, 1, 5))), by(2, 1, in(add(6), full)))
	is(t, "Apply by a full path", got, of(field(2, "c", number(1, 1, 5), number(2, 1, 6))))
}

func TestSeveralErrors(t *testing.T) {
	long := strings.Repeat("x", 20001)
	s := of(mark(1, 1))
	for _, x := range []struct {
		what string
		kind int
		u    api.Update
		want api.Errno
	}{
		{"no kind, a long text", 0, put(long), api.ErrKind},
		{"no kind, a long text", 7, insert(long), api.ErrKind},
		{"another kind, a long text", api.KindCounter, put(long), api.ErrKind},
		{"a long path with a long name", api.KindMap, in(insert(long), append(down(7, 6), field(4, long))...), api.ErrKind},
		{"a path through a set with a long name", api.KindMap, in(insert("x"), field(4, long), field(4, "s")), api.ErrKind},
		{"a path of no map with a long name", api.KindSet, in(insert("x"), field(4, long)), api.ErrKind},
		{"a Delete with a path with a long name", api.KindMap, in(op(api.OpDelete), field(4, long)), api.ErrKind},
		{"a Drop of no kind with a long name", api.KindMap, dropping(1, long), api.ErrKind},
		{"no operation, a long text", api.KindMap, api.Update{Op: 10, S: long}, api.ErrKind},
		{"a long text", api.KindObject, put(long), api.ErrSize},
		{"a long text and a long name", api.KindMap, in(insert(long), field(4, long)), api.ErrSize},
		{"a long text that is not asked for", api.KindFlag, api.Update{Op: api.OpDisable, S: long}, api.ErrSize},
		{"a Drop of a long name", api.KindMap, dropping(2, long), api.ErrSize},
	} {
		if got := kinds.Check(x.kind, x.u); got != x.want {
			t.Errorf("Check of %s: %d, want %d", x.what, int(got), int(x.want))
		}
		refused(t, x.kind, s, by(1, 1, x.u), x.want)
		refused(t, x.kind, s, by(1, 0, x.u), x.want)
	}
	for o, l := range whose {
		u := api.Update{Op: o, Kind: api.KindCounter}
		for _, kind := range l {
			refused(t, kind, s, by(0, 0, u), api.ErrArg)
			refused(t, kind, s, by(1, 0, u, 1, 1), api.ErrArg)
			refused(t, kind, of(), by(most, 0, u), api.ErrArg)
			if kind != api.KindObject && o != api.OpDelete {
				refused(t, api.KindMap, s, by(1, 0, in(u, down(7, kind)...)), api.ErrArg)
				refused(t, api.KindMap, s, by(1, 0, in(u, down(8, kind)...)), api.ErrKind)
			}
		}
	}
}

func TestMints(t *testing.T) {
	mint := []int{api.OpPut, api.OpAdd, api.OpEnable, api.OpInsert, api.OpAssign}
	for _, o := range someOps {
		if got := kinds.Mints(o); got != slices.Contains(mint, o) {
			t.Errorf("Mints(%d): %v", o, got)
		}
	}
}

// An operation mints just if it puts an entry where nothing is.
func TestWhatMintsPuts(t *testing.T) {
	for o, l := range whose {
		for _, kind := range l {
			s := applied(t, kind, of(), by(3, 4, api.Update{Op: o, Kind: api.KindSet}))
			if empty := len(s.Entries)+len(s.Fields) == 0; empty == kinds.Mints(o) {
				t.Error(fmt.Sprint("operation ", o, " of nothing: "), told(s))
			}
		}
	}
}
