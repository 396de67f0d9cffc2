package tree_test

import (
	"maps"
	"math/rand"
	"slices"
	"strconv"
	"testing"

	"murmuration/tree"
)

// some are keys of few leaves, so that several meet in one; and some of others.
func some() []string {
	keys := []string{"", "a", "b", "key"}
	for _, leaf := range []int{0, 1, 15, 16, 112, 113, 255} {
		for n := range 4 {
			keys = append(keys, keyOf(leaf, n))
		}
	}
	return keys
}

func pick[T any](r *rand.Rand, l []T) T { return l[r.Intn(len(l))] }

func picks[T any](r *rand.Rand, l []T) []T {
	var p []T
	for range r.Intn(5) {
		p = append(p, pick(r, l))
	}
	return p
}

var manySums = []string{"s", "r", "q"}

// Drawn calls are answered as the chapter's words say of all that came before.
func TestDrawnCalls(t *testing.T) {
	keys := some()
	branches := []int{0, 1, 7, 15, 0, 1, 7, 15, 3, -1, 16, 99}
	for seed := range int64(60) {
		r := rand.New(rand.NewSource(seed))
		got, want := tree.New(), newPlain()
		for range 120 {
			switch r.Intn(9) {
			case 0, 1, 2, 3:
				key, s := pick(r, keys), sum(pick(r, manySums))
				got.Put(key, s)
				want.put(key, s)
			case 4, 5:
				gone := picks(r, keys)
				got.Delete(gone...)
				want.delete(gone...)
			case 6:
				asked := picks(r, branches)
				is(t, "Level", got.Level(asked...), want.level(asked...))
			case 7:
				if r.Intn(2) == 0 {
					is(t, "Root", got.Root(), want.root())
				}
			case 8:
				leaf := int(sum(pick(r, keys))[0])
				is(t, "Keys", got.Keys(leaf), want.keys(leaf))
			}
			is(t, "Len", got.Len(), len(want.sums))
			is(t, "Dirty", got.Dirty(), len(want.dirty))
		}
		want.holds(t, "at the end of seed "+strconv.FormatInt(seed, 10), got)
	}
}

func drawn(r *rand.Rand, keys []string) map[string][32]byte {
	sums := map[string][32]byte{}
	for _, key := range keys {
		if r.Intn(2) == 0 {
			sums[key] = sum(pick(r, manySums))
		}
	}
	return sums
}

// detour is a tree with these sums that came there in some other way.
func detour(r *rand.Rand, sums map[string][32]byte, others []string) *tree.Tree {
	got := tree.New()
	for range 80 {
		key := pick(r, others)
		got.Put(key, sum(pick(r, manySums)))
		switch r.Intn(6) {
		case 0:
			got.Delete(picks(r, others)...)
		case 1:
			got.Root()
		case 2:
			got.Level(r.Intn(20))
		}
	}
	for _, key := range others {
		if _, there := sums[key]; !there {
			got.Delete(key)
		}
	}
	wanted := slices.Sorted(maps.Keys(sums))
	r.Shuffle(len(wanted), func(i, j int) { wanted[i], wanted[j] = wanted[j], wanted[i] })
	for _, key := range wanted {
		got.Put(key, sums[key])
	}
	return got
}

func TestHashesHangOnKeysAndSumsAlone(t *testing.T) {
	keys := some()
	for seed := range int64(100) {
		r := rand.New(rand.NewSource(seed))
		sums := drawn(r, keys)
		straight, round := of(sums), detour(r, sums, keys)
		is(t, "Root", straight.Root(), round.Root())
		is(t, "Level", straight.Level(), round.Level())
		for b := range 16 {
			is(t, "Level of "+strconv.Itoa(b), straight.Level(b), round.Level(b))
		}
		is(t, "Len", straight.Len(), round.Len())
		is(t, "what is unlike", len(down(straight, round)), 0)
	}
}

// down are the leaves to which going down over what differs leads.
func down(a, b *tree.Tree) []int {
	if a.Root() == b.Root() {
		return nil
	}
	branches := tree.Differ(a.Level(), b.Level())
	var leaves []int
	for _, i := range tree.Differ(a.Level(branches...), b.Level(branches...)) {
		leaves = append(leaves, 16*branches[i/16]+i%16)
	}
	return leaves
}

// unlike are the leaves in which two have not the same keys and sums.
func unlike(a, b map[string][32]byte) []int {
	var leaves []int
	for leaf := range 256 {
		if !slices.Equal(plainOf(a).keys(leaf), plainOf(b).keys(leaf)) {
			leaves = append(leaves, leaf)
		}
	}
	return leaves
}

func TestGoingDownLeadsToWhatDiffers(t *testing.T) {
	keys := append(some(), slices.Sorted(maps.Keys(numbered(60)))...)
	for seed := range int64(60) {
		r := rand.New(rand.NewSource(seed))
		a := drawn(r, keys)
		b := maps.Clone(a)
		for range r.Intn(5) {
			if key := pick(r, keys); r.Intn(3) == 0 {
				delete(b, key)
			} else {
				b[key] = sum(pick(r, manySums))
			}
		}
		is(t, "leaves that differ", down(of(a), of(b)), unlike(a, b))
		is(t, "the other way round", down(of(b), of(a)), unlike(a, b))
		is(t, "the same root", of(a).Root() == of(b).Root(), maps.Equal(a, b))
		c := drawn(r, keys)
		is(t, "leaves of two that have little alike", down(of(a), of(c)), unlike(a, c))
	}
}

// Two trees of one leaf's few keys and sums have the same root only if they have the same of them.
func TestNoTwoAreAlikeByChance(t *testing.T) {
	a, b := keyOf(7, 0), keyOf(7, 1)
	seen := map[[32]byte]string{}
	for _, first := range []string{"", "s", "r"} {
		for _, second := range []string{"", "s", "r"} {
			got := tree.New()
			if first != "" {
				got.Put(a, sum(first))
			}
			if second != "" {
				got.Put(b, sum(second))
			}
			is(t, "who else has this root", seen[got.Root()], "")
			seen[got.Root()] = "a has " + first + ", b has " + second
		}
	}
}
