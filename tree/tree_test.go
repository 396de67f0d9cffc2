package tree_test

import (
	"math"
	"strconv"
	"strings"
	"testing"

	"murmuration/sha"
	"murmuration/tree"
)

// noBranches and noLeaves are numbers beyond those that there are.
var (
	noBranches = []int{math.MinInt, math.MinInt + 1, -256, -16, -1, 16, 17, 255, 256, 1 << 32, math.MaxInt - 1, math.MaxInt}
	noLeaves   = []int{math.MinInt, math.MinInt + 1, -256, -1, 256, 257, 512, 1 << 32, math.MaxInt - 1, math.MaxInt}
)

// The chapter's examples

func TestExamples(t *testing.T) {
	var zeros, branches [16][32]byte
	for i := range branches {
		branches[i] = sha.Join(zeros[:]...)
	}
	is(t, "the root of none", tree.New().Root(), sha.Join(branches[:]...))

	a, s := tree.New(), sum("s")
	a.Put("a", s)
	is(t, "Dirty behind Put", a.Dirty(), 1)
	a.Root()
	is(t, "Dirty behind Root", a.Dirty(), 0)
	a.Put("a", s)
	is(t, "Dirty behind the same Put", a.Dirty(), 0)

	both := numbered(100)
	one, other := of(both), of(both)
	one.Put("a", s)
	branch := tree.Differ(one.Level(), other.Level())
	is(t, "a's branch", branch, []int{tree.Leaf("a") / 16})
	is(t, "a's leaf in it", tree.Differ(one.Level(branch...), other.Level(branch...)), []int{tree.Leaf("a") % 16})
}

// Hashes that another program has reckoned by the chapter's words
func TestKnownHashes(t *testing.T) {
	none := tree.New()
	is(t, "the root of none", digits(none.Root()), "ab60848a6dc1d5a37df96328ebeeac89aa6b45191ac1eed6abc8144e77d9ac5e")
	is(t, "a branch of none", digits(none.Level()[0]), "076a27c79e5ace2a3d47f9dd2e83e4ff6ea8872b3c2218f66c92b89b55f36560")
	is(t, "a leaf of none", none.Level(0)[0], [32]byte{})

	a := of(map[string][32]byte{"a": sum("v")})
	is(t, "a's leaf", tree.Leaf("a"), 202)
	is(t, "its hash", digits(a.Level(202 / 16)[202%16]), "39f187617d92394af693235155828522fa9a54ac5995d5646e4f747d4e5f0213")
	is(t, "the root of a alone", digits(a.Root()), "567433b38e667c420d899d718945126366225747047c67ceccf32358c979fd28")

	for want, sums := range map[string]map[string][32]byte{
		"36ab71864cbe1144d16ca02bb9b55a78ed1bd6a2351a4ef605a9cf4bcf59dd7e": {"": {}},
		"fc80f389e09a8369160e1209e1c9d2e7de6529769787a45ec1c1c4e7e1ee22e8": numbered(1000),
		"e31539253ed4635724251f1451fc61b8661bcd6e524e4db2c04e1435e00d70af": {strings.Repeat("x", 300): sum("")},
	} {
		is(t, "the root", digits(of(sums).Root()), want)
	}
}

// P10.1

func TestNew(t *testing.T) {
	newPlain().holds(t, "New", tree.New())
	one, other := tree.New(), tree.New()
	one.Put("a", sum("s"))
	newPlain().holds(t, "New beside another one", other)
}

func TestPut(t *testing.T) {
	got, want := tree.New(), newPlain()
	put := func(what, key, s string) {
		t.Helper()
		got.Put(key, sum(s))
		want.put(key, sum(s))
		want.holds(t, what, got)
	}
	put("the first key", keyOf(7, 0), "s")
	put("the same once more", keyOf(7, 0), "s")
	put("another sum", keyOf(7, 0), "r")
	put("a second key of the leaf, the same sum", keyOf(7, 1), "r")
	put("a key of the leaf beside", keyOf(8, 0), "r")
	put("a key of another branch", keyOf(200, 0), "s")
	put("no bytes", "", "s")
	put("the first key's first sum again", keyOf(7, 0), "s")
}

func TestPutOfASumOfZeros(t *testing.T) {
	got, want := tree.New(), newPlain()
	got.Put("a", [32]byte{})
	want.put("a", [32]byte{})
	want.holds(t, "a sum of zeros", got)
	is(t, "the leaf's hash is another one than that of none", got.Level(202 / 16)[202%16] == [32]byte{}, false)
	got.Put("a", [32]byte{})
	is(t, "the same once more", got.Dirty(), 0)
	got.Delete("a")
	want.delete("a")
	want.holds(t, "gone", got)
}

func TestSumsThatAreNearlyAlike(t *testing.T) {
	s := sum("s")
	got, want := of(map[string][32]byte{"a": s}), newPlain()
	want.put("a", s)
	for i := range s {
		got.Root()
		want.root()
		s[i] ^= 1
		got.Put("a", s)
		want.put("a", s)
		is(t, "Dirty, byte "+strconv.Itoa(i)+" turned", got.Dirty(), 1)
		is(t, "Root, byte "+strconv.Itoa(i)+" turned", got.Root(), want.root())
	}
}

func TestKeysOfAllSizes(t *testing.T) {
	got, want := tree.New(), newPlain()
	for _, n := range []int{0, 1, 31, 32, 33, 63, 64, 127, 128, 129, 254, 255, 256, 300, 16383, 16384, 65536, 1 << 20} {
		key := strings.Repeat("k", n)
		got.Put(key, sum(strconv.Itoa(n)))
		want.put(key, sum(strconv.Itoa(n)))
		is(t, "Leaf of "+strconv.Itoa(n)+" bytes", tree.Leaf(key), int(sum(key)[0]))
		is(t, "Root with "+strconv.Itoa(n)+" bytes", digits(got.Root()), digits(want.root()))
	}
	want.holds(t, "keys of all sizes", got)
}

func TestDelete(t *testing.T) {
	a, b, c, d := keyOf(7, 0), keyOf(7, 1), keyOf(8, 0), keyOf(200, 0)
	none := keyOf(7, 2)
	for what, keys := range map[string][]string{
		"no key":                        nil,
		"one that isn't there":          {none},
		"two that aren't there":         {none, keyOf(9, 0)},
		"one of a leaf's two":           {a},
		"both":                          {b, a},
		"a leaf's only one":             {c},
		"one twice":                     {d, d},
		"one behind one that is none":   {none, d},
		"one ahead of one that is none": {d, none, a},
		"all":                           {a, b, c, d},
		"all, and all again":            {d, c, b, a, a, b, c, d},
	} {
		got, want := tree.New(), newPlain()
		for _, key := range []string{a, b, c, d} {
			got.Put(key, sum(key))
			want.put(key, sum(key))
		}
		got.Root()
		want.root()
		got.Delete(keys...)
		want.delete(keys...)
		want.holds(t, what, got)
		got.Delete(keys...)
		want.holds(t, what+", again", got)
		got.Put(a, sum(a))
		want.put(a, sum(a))
		want.holds(t, what+", and one put again", got)
	}
}

func TestDeleteFromNoKeys(t *testing.T) {
	got := tree.New()
	got.Delete()
	got.Delete("")
	got.Delete("a", "b", "a")
	newPlain().holds(t, "Delete from none", got)
}

// P10.2

func TestLeaf(t *testing.T) {
	for _, key := range append(oddKeys(), "a", "key", keyOf(0, 0), keyOf(15, 0), keyOf(16, 0), keyOf(127, 0), keyOf(128, 0), keyOf(255, 0)) {
		is(t, "Leaf of "+strconv.Quote(key), tree.Leaf(key), int(sum(key)[0]))
	}
}

func TestEachLeafHasItsPlace(t *testing.T) {
	empty := tree.New()
	for leaf := range 256 {
		key := keyOf(leaf, 0)
		got, want := of(map[string][32]byte{key: sum(key)}), newPlain()
		want.put(key, sum(key))
		want.holds(t, "a key of leaf "+strconv.Itoa(leaf), got)
		is(t, "its branch", tree.Differ(got.Level(), empty.Level()), []int{leaf / 16})
		is(t, "its place there", tree.Differ(got.Level(leaf/16), empty.Level(leaf/16)), []int{leaf % 16})
	}
}

func TestLevelOfSeveralBranches(t *testing.T) {
	sums := numbered(600)
	got, want := of(sums), plainOf(sums)
	for _, branches := range [][]int{{0}, {15}, {0, 15}, {15, 0}, {3, 3}, {3, 3, 3, 0, 3}, {0, 1, 2, 3, 4, 5, 6, 7, 8, 9, 10, 11, 12, 13, 14, 15}} {
		is(t, "Level", got.Level(branches...), want.level(branches...))
		is(t, "how many", len(got.Level(branches...)), 16*len(branches))
	}
	is(t, "Level of an empty list is that of none given", got.Level([]int{}...), want.level())
	is(t, "how many with none given", len(got.Level()), 16)
}

func TestLevelOfWhatIsNoBranch(t *testing.T) {
	sums := numbered(600)
	got, want := of(sums), plainOf(sums)
	for _, b := range noBranches {
		is(t, "Level of "+strconv.Itoa(b), len(got.Level(b)), 0)
		is(t, "twice", len(got.Level(b, b)), 0)
		is(t, "ahead of one", got.Level(b, 4), want.level(4))
		is(t, "behind one", got.Level(4, b), want.level(4))
		is(t, "between two", got.Level(0, b, 15), want.level(0, 15))
	}
	is(t, "all that are none", len(got.Level(noBranches...)), 0)
}

func TestKeysRise(t *testing.T) {
	keys := oddKeys()
	got, want := tree.New(), newPlain()
	for i := range keys {
		key := keys[len(keys)-1-i]
		got.Put(key, sum(key))
		want.put(key, sum(key))
	}
	want.holds(t, "keys of odd bytes", got)
}

func TestKeysOfWhatIsNoLeaf(t *testing.T) {
	got := of(numbered(3000))
	for _, leaf := range noLeaves {
		is(t, "Keys of "+strconv.Itoa(leaf), len(got.Keys(leaf)), 0)
	}
	is(t, "Keys of a leaf without any", len(tree.New().Keys(7)), 0)
}

func TestDirty(t *testing.T) {
	a, b, c, d := keyOf(7, 0), keyOf(7, 1), keyOf(8, 0), keyOf(200, 0)
	got := tree.New()
	steps := []struct {
		what string
		do   func()
		want int
	}{
		{"nothing yet", func() {}, 0},
		{"a key", func() { got.Put(a, sum("s")) }, 1},
		{"the same", func() { got.Put(a, sum("s")) }, 1},
		{"another one of the leaf", func() { got.Put(b, sum("s")) }, 1},
		{"one of the leaf beside", func() { got.Put(c, sum("s")) }, 2},
		{"one of another branch", func() { got.Put(d, sum("s")) }, 3},
		{"Keys, Len and Dirty reckon nothing", func() { got.Keys(7); got.Len(); got.Dirty() }, 3},
		{"Root reckons all", func() { got.Root() }, 0},
		{"Root again", func() { got.Root() }, 0},
		{"the same as what is there", func() { got.Put(a, sum("s")); got.Put(d, sum("s")) }, 0},
		{"Delete of one that isn't there", func() { got.Delete(keyOf(7, 2), keyOf(9, 0)) }, 0},
		{"Delete of none", func() { got.Delete() }, 0},
		{"another sum", func() { got.Put(a, sum("r")) }, 1},
		{"and the one before: it was changed all the same", func() { got.Put(a, sum("s")) }, 1},
		{"Level reckons all", func() { got.Level() }, 0},
		{"Delete", func() { got.Delete(d, b) }, 2},
		{"what was deleted, put again: it was changed all the same", func() { got.Put(d, sum("s")) }, 2},
		{"Level of the one's branch reckons the other one, too", func() { got.Level(0) }, 0},
		{"Put and Delete of a new key: it was changed all the same", func() { got.Put(b, sum("s")); got.Delete(b) }, 1},
		{"Level of a branch with none dirty", func() { got.Level(9) }, 0},
		{"Delete of all", func() { got.Delete(a, c, d) }, 3},
		{"Level of what is no branch leaves none, too", func() { got.Level(-1, 16) }, 0},
		{"Delete of all again", func() { got.Delete(a, c, d) }, 0},
	}
	for _, s := range steps {
		s.do()
		is(t, s.what, got.Dirty(), s.want)
	}
}

func TestAllLeavesDirty(t *testing.T) {
	sums := numbered(4000)
	got, want := of(sums), plainOf(sums)
	is(t, "Dirty", got.Dirty(), 256)
	is(t, "Root", got.Root(), want.root())
	is(t, "Dirty behind Root", got.Dirty(), 0)
}

// What was changed is told, whichever call is the first to ask.
func TestNoHashIsStale(t *testing.T) {
	key := keyOf(37, 0)
	asks := map[string]func(got *tree.Tree, want *plain){
		"Root":               func(got *tree.Tree, want *plain) { is(t, "Root", got.Root(), want.root()) },
		"Level":              func(got *tree.Tree, want *plain) { is(t, "Level", got.Level(), want.level()) },
		"Level of a branch":  func(got *tree.Tree, want *plain) { is(t, "Level(2)", got.Level(2), want.level(2)) },
		"Level of no branch": func(got *tree.Tree, want *plain) { is(t, "Level(99)", got.Level(99), want.level(99)) },
		"Level beside":       func(got *tree.Tree, want *plain) { is(t, "Level(3)", got.Level(3), want.level(3)) },
	}
	for _, first := range asks {
		for _, second := range asks {
			got, want := tree.New(), newPlain()
			for _, s := range []string{"s", "r", "s"} {
				got.Put(key, sum(s))
				want.put(key, sum(s))
				first(got, want)
				second(got, want)
			}
			got.Delete(key)
			want.delete(key)
			first(got, want)
			second(got, want)
			want.holds(t, "behind both", got)
		}
	}
}

func TestDiffer(t *testing.T) {
	a, b, c := sum("a"), sum("b"), sum("c")
	last := a
	last[31] ^= 1
	list := func(l ...[32]byte) [][32]byte { return l }
	for _, r := range []struct {
		what string
		a, b [][32]byte
		want []int
	}{
		{"two of none", nil, nil, nil},
		{"two of none, one nil", nil, list(), nil},
		{"one of one, one nil", list(a), nil, []int{0}},
		{"a sum of zeros, and none", list([32]byte{}), nil, []int{0}},
		{"alike", list(a, b, c), list(a, b, c), nil},
		{"alike, each the same", list(a, a, a), list(a, a, a), nil},
		{"the first", list(a, b, c), list(b, b, c), []int{0}},
		{"the midst", list(a, b, c), list(a, c, c), []int{1}},
		{"the last", list(a, b, c), list(a, b, a), []int{2}},
		{"the last byte alone", list(b, a), list(b, last), []int{1}},
		{"all", list(a, b, c), list(b, c, a), []int{0, 1, 2}},
		{"one has more", list(a, b, c), list(a), []int{1, 2}},
		{"one has more, and one is unlike", list(a, b, c), list(b), []int{0, 1, 2}},
		{"one has one more of zeros", list(a, [32]byte{}), list(a), []int{1}},
		{"places, not sums, are held against each other", list(a, b), list(c, a, b), []int{0, 1, 2}},
	} {
		is(t, r.what, tree.Differ(r.a, r.b), r.want)
		is(t, r.what+", the other way round", tree.Differ(r.b, r.a), r.want)
	}
}

func TestDifferOfLongLists(t *testing.T) {
	a, b := make([][32]byte, 100000), make([][32]byte, 100003)
	var want []int
	for i := 0; i < len(a); i += 997 {
		b[i][i%32] = byte(i) | 1
		want = append(want, i)
	}
	want = append(want, 100000, 100001, 100002)
	is(t, "long lists", tree.Differ(a, b), want)
}

// R1

func TestNoTree(t *testing.T) {
	var none *tree.Tree
	none.Put("a", sum("s"))
	none.Delete()
	none.Delete("a", "b")
	is(t, "Root", none.Root(), [32]byte{})
	is(t, "Level", len(none.Level()), 0)
	is(t, "Level of branches", len(none.Level(0, 15, 99)), 0)
	for _, leaf := range append([]int{0, 202, 255}, noLeaves...) {
		is(t, "Keys", len(none.Keys(leaf)), 0)
	}
	is(t, "Len", none.Len(), 0)
	is(t, "Dirty", none.Dirty(), 0)
}

func TestAZeroTree(t *testing.T) {
	newPlain().holds(t, "a zero tree", &tree.Tree{})
	for what, ask := range map[string]func(*tree.Tree) any{
		"Root":     func(z *tree.Tree) any { return z.Root() },
		"Level":    func(z *tree.Tree) any { return z.Level() },
		"Level(7)": func(z *tree.Tree) any { return z.Level(7) },
		"Keys":     func(z *tree.Tree) any { return len(z.Keys(7)) },
		"Delete":   func(z *tree.Tree) any { z.Delete("a"); return z.Root() },
		"Put":      func(z *tree.Tree) any { z.Put("a", sum("s")); return z.Root() },
	} {
		is(t, what, ask(&tree.Tree{}), ask(tree.New()))
	}
	var zero tree.Tree
	want := newPlain()
	zero.Put("a", sum("s"))
	want.put("a", sum("s"))
	want.holds(t, "a zero tree that was put into", &zero)
}
