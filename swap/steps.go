package swap

import (
	"slices"

	"murmuration/api"
	"murmuration/tree"
)

// width is how many leaves a branch has.
const width = api.Leaves / api.Branches

func toBranches(t *tree.Tree, sums [][32]byte) api.Swap {
	places := branchesOf(tree.Differ(sums, t.Level()))
	if len(places) == 0 {
		return api.Swap{}
	}
	return api.Swap{Step: leafHashes, Places: places, Sums: t.Level(places...)}
}

func toLeaves(t *tree.Tree, places []int, sums [][32]byte) api.Swap {
	branches := branchesOf(places)
	var leaves []int
	for _, i := range tree.Differ(sums, t.Level(branches...)) {
		// Sums may go on behind the last branch; and where there is none, Level tells other hashes than leaves'.
		if i < width*len(branches) {
			leaves = append(leaves, width*branches[i/width]+i%width)
		}
	}
	if len(leaves) == 0 {
		return api.Swap{}
	}
	return api.Swap{Step: leafKeys, Places: leaves, Keys: keysOf(t, leaves...)}
}

func toKeys(t *tree.Tree, places []int, theirs []api.Sum) (api.Swap, []string) {
	mine := keysOf(t, distinct(places)...)
	give, want := unlike(mine, theirs), unlike(theirs, mine)
	if len(give) == 0 && len(want) == 0 {
		return api.Swap{}, nil
	}
	return api.Swap{Step: cellsAndWants, Want: want}, give
}

func toWants(want []string) (api.Swap, []string) {
	if len(want) == 0 {
		return api.Swap{}, nil
	}
	return api.Swap{Step: cellsAlone}, slices.Clone(want)
}

// branchesOf are those of the places that are branches, as often as they are there.
func branchesOf(places []int) []int {
	var l []int
	for _, place := range places {
		if place >= 0 && place < api.Branches {
			l = append(l, place)
		}
	}
	return l
}

// keysOf are the leaves' keys, one leaf behind the other; what is no leaf has none.
func keysOf(t *tree.Tree, leaves ...int) []api.Sum {
	var l []api.Sum
	for _, leaf := range leaves {
		l = append(l, t.Keys(leaf)...)
	}
	return l
}
