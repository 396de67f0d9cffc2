package tree_test

import (
	"slices"
	"testing"

	"murmuration/api"
	"murmuration/tree"
)

// scribble writes over all that a list could reach.
func scribble[T any](l []T, with T) {
	l = l[:cap(l)]
	for i := range l {
		l[i] = with
	}
}

func TestWhatIsToldIsTheOwnersOwn(t *testing.T) {
	sums := numbered(600)
	got, want := of(sums), plainOf(sums)
	other := sum("another one")
	for range 2 {
		scribble(got.Level(), other)
		scribble(got.Level(0, 15, 3), other)
		scribble(got.Level(7), other)
		scribble(got.Level(99), other)
		for leaf := range 256 {
			scribble(got.Keys(leaf), api.Sum{Key: "another one", Sum: other})
		}
		want.holds(t, "behind scribbling", got)
	}
	a, b := got.Level(), tree.New().Level()
	scribble(tree.Differ(a, b), -1)
	is(t, "Differ again", tree.Differ(a, b), []int{0, 1, 2, 3, 4, 5, 6, 7, 8, 9, 10, 11, 12, 13, 14, 15})
}

func TestWhatIsToldDoesNotChangeLater(t *testing.T) {
	got := of(numbered(600))
	level, leaves, keys := got.Level(), got.Level(0, 1, 0), got.Keys(7)
	wasLevel, wasLeaves, wasKeys := slices.Clone(level), slices.Clone(leaves), slices.Clone(keys)
	for key := range numbered(600) {
		got.Put(key, sum("another one"))
	}
	got.Root()
	is(t, "Level", level, wasLevel)
	is(t, "Level of branches", leaves, wasLeaves)
	is(t, "Keys", keys, wasKeys)
}

func TestWhatIsHandedInStays(t *testing.T) {
	sums := numbered(20)
	got, want := of(sums), plainOf(sums)
	is(t, "Root", got.Root(), want.root())

	gone := make([]string, 4, 8)
	copy(gone, []string{"3", "none", "5", "3"})
	got.Delete(gone...)
	want.delete("3", "none", "5", "3")
	is(t, "the keys", gone[:8], []string{"3", "none", "5", "3", "", "", "", ""})
	scribble(gone, "7")
	want.holds(t, "behind the keys were changed", got)

	branches := make([]int, 3, 6)
	copy(branches, []int{15, 99, 2})
	level := got.Level(branches...)
	is(t, "the branches", branches[:6], []int{15, 99, 2, 0, 0, 0})
	scribble(branches, 4)
	is(t, "behind the branches were changed", level, want.level(15, 2))

	a, b := got.Level(), tree.New().Level(3)
	wasA, wasB := slices.Clone(a), slices.Clone(b)
	places := tree.Differ(a, b)
	is(t, "the one list", a, wasA)
	is(t, "the other list", b, wasB)
	was := slices.Clone(places)
	scribble(a, sum("another one"))
	scribble(b, sum("another one"))
	is(t, "behind the lists were changed", places, was)

	s := sum("s")
	got.Put("a", s)
	want.put("a", s)
	s[0]++
	want.holds(t, "behind the sum was changed", got)
}
