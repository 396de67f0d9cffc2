package swap_test

import (
	"fmt"
	"math"
	"slices"
	"strings"
	"testing"

	"murmuration/api"
	"murmuration/swap"
	"murmuration/tree"
)

// steps says what is answered to a step, as it stands and with all else in it that is passed over.
func steps(t *testing.T, what string, x *tree.Tree, m, want api.Swap, keys ...string) {
	t.Helper()
	for what, m := range map[string]api.Swap{what: m, what + ", littered": littered(m)} {
		got, going := swap.Step(x, m)
		tells(t, what, got, want)
		is(t, what+": keys", fmt.Sprintf("%q", going), fmt.Sprintf("%q", keys))
	}
}

// P17.1

func TestBegin(t *testing.T) {
	for _, words := range []string{"", "a 1", "a 1 b 2 c 3"} {
		x := planted(words)
		tells(t, words, swap.Begin(x), api.Swap{Step: 1, Sums: x.Level()})
	}
	tells(t, "a zero tree", swap.Begin(&tree.Tree{}), api.Swap{Step: 1, Sums: tree.New().Level()})
	tells(t, "no tree", swap.Begin(nil), api.Swap{})
	x := planted("a 1")
	swap.Begin(x)
	x.Put("b", sum("2"))
	tells(t, "begun anew", swap.Begin(x), api.Swap{Step: 1, Sums: planted("a 1 b 2").Level()})
}

// P17.2

func TestToBranches(t *testing.T) {
	a, b := keysAt(3*16+5, 1)[0], keysAt(15*16, 1)[0]
	mine := planted(a + " 1 " + b + " 2")
	to := func(sums [][32]byte) api.Swap { return api.Swap{Step: 1, Sums: append([][32]byte{}, sums...)} }
	two := func(places ...int) api.Swap {
		return api.Swap{Step: 2, Places: places, Sums: mine.Level(places...)}
	}
	all := []int{0, 1, 2, 3, 4, 5, 6, 7, 8, 9, 10, 11, 12, 13, 14, 15}
	same := mine.Level()
	steps(t, "the same", mine, to(same), api.Swap{})
	steps(t, "none of them there", mine, to(tree.New().Level()), two(3, 15))
	steps(t, "one there", mine, to(planted(b+" 2").Level()), two(3))
	steps(t, "one with another sum", mine, to(planted(a+" 1 "+b+" 1").Level()), two(15))
	steps(t, "one besides", mine, to(planted(a+" 1 "+b+" 2 "+keysAt(7, 1)[0]+" 3").Level()), two(0))
	steps(t, "no sums", mine, to(nil), two(all...))
	steps(t, "too few", mine, to(same[:14]), two(14, 15))
	steps(t, "too many, the same", mine, to(append(slices.Clone(same), sum("x"), same[0])), api.Swap{})
	steps(t, "too many, another one", mine, to(append(planted(a+" 1").Level(), sum("x"))), two(15))
	steps(t, "far too many", mine, to(make([][32]byte, 5000)), two(all...))
	steps(t, "zeros to an empty tree", tree.New(), to(make([][32]byte, 16)), api.Swap{Step: 2, Places: all, Sums: make([][32]byte, 256)})
	steps(t, "a zero tree", &tree.Tree{}, to(tree.New().Level()), api.Swap{})
}

func TestToLeaves(t *testing.T) {
	a, b, c := keysAt(3*16+5, 2), keysAt(3*16+15, 1)[0], keysAt(15*16, 1)[0]
	mine := planted(a[0] + " 1 " + a[1] + " 2 " + b + " 3 " + c + " 4")
	other := planted(a[0] + " 1 " + b + " 3")
	to := func(sums [][32]byte, places ...int) api.Swap {
		return api.Swap{Step: 2, Places: append([]int{}, places...), Sums: append([][32]byte{}, sums...)}
	}
	three := func(places ...int) api.Swap {
		m := api.Swap{Step: 3, Places: places}
		for _, place := range places {
			m.Keys = append(m.Keys, mine.Keys(place)...)
		}
		return m
	}
	steps(t, "the same", mine, to(mine.Level(3, 15), 3, 15), api.Swap{})
	steps(t, "two unlike", mine, to(other.Level(3, 15), 3, 15), three(53, 240))
	steps(t, "in the places' order", mine, to(other.Level(15, 0, 3), 15, 0, 3), three(240, 53))
	steps(t, "one of them asked for", mine, to(other.Level(15), 15), three(240))
	steps(t, "all of an empty tree's", mine, to(tree.New().Level(3), 3), three(53, 63))
	steps(t, "leaves of which only the other has keys", tree.New(), to(mine.Level(3), 3), api.Swap{Step: 3, Places: []int{53, 63}})
	steps(t, "no places", mine, to(nil), api.Swap{})
	steps(t, "sums without places", mine, to(other.Level()), api.Swap{})
	steps(t, "places that are none", mine, to(other.Level(3), -1, 16, math.MinInt, math.MaxInt, 256), api.Swap{})
	steps(t, "a place that is none doesn't count", mine, to(other.Level(3, 15), -1, 3, 16, 15, 99), three(53, 240))
	steps(t, "a place twice", mine, to(other.Level(3, 15, 3), 3, 15, 3), three(53, 240, 53))
	steps(t, "a place twice, once the same", mine, to(append(mine.Level(3), other.Level(3)...), 3, 3), three(53))
	steps(t, "more sums than places", mine, to(append(mine.Level(3), other.Level(15)...), 3), api.Swap{})
	steps(t, "sums that end early", mine, to(other.Level(3)[:5], 3), three(53, 54, 55, 56, 57, 58, 59, 60, 61, 62, 63))
	steps(t, "sums that end ahead of a place", mine, to(other.Level(3), 3, 14), three(53, 224, 225, 226, 227, 228, 229, 230, 231, 232, 233, 234, 235, 236, 237, 238, 239))
	is(t, "sums that all are missing", len(told(swap.Step(mine, to(nil, 0, 1))).Places), 32)
}

// told is a step without the keys that go with it.
func told(m api.Swap, _ []string) api.Swap { return m }

func TestToKeys(t *testing.T) {
	a, b := keysAt(53, 3), keysAt(240, 2)
	mine := planted(a[0] + " 1 " + a[1] + " 2 " + b[0] + " 3 " + b[1] + " 4")
	to := func(theirs string, places ...int) api.Swap {
		return api.Swap{Step: 3, Places: append([]int{}, places...), Keys: append([]api.Sum{}, sums(theirs)...)}
	}
	four := func(want ...string) api.Swap { return api.Swap{Step: 4, Want: want} }
	same := a[0] + " 1 " + a[1] + " 2 "
	steps(t, "nothing", mine, to(""), api.Swap{})
	steps(t, "the same", mine, to(same, 53), api.Swap{})
	steps(t, "the same in another order", mine, to(b[1]+" 4 "+same+b[0]+" 3", 53, 240), api.Swap{})
	steps(t, "the same twice", mine, to(same+same, 53), api.Swap{})
	steps(t, "a leaf without keys", mine, to("", 54), api.Swap{})
	steps(t, "they have none", mine, to("", 53), four(), a[0], a[1])
	steps(t, "they have one", mine, to(a[1]+" 2", 53), four(), a[0])
	steps(t, "they have one besides", mine, to(same+a[2]+" 5", 53), four(a[2]))
	steps(t, "another sum", mine, to(a[0]+" 1 "+a[1]+" 9", 53), four(a[1]), a[1])
	steps(t, "some of all", mine, to(a[2]+" 5 "+a[1]+" 9 z 1", 53), four(a[2], a[1], "z"), a[0], a[1])
	steps(t, "mine in the places' order", mine, to("", 240, 53), four(), b[0], b[1], a[0], a[1])
	steps(t, "theirs in their order", tree.New(), to("z 1 b 2 y 3 a 4"), four("z", "b", "y", "a"))
	steps(t, "a place twice", mine, to("", 53, 240, 53, 53), four(), a[0], a[1], b[0], b[1])
	steps(t, "places that are none", mine, to(same, -1, 53, 256, math.MinInt, math.MaxInt, -53), api.Swap{})
	steps(t, "keys of another leaf than is asked for", mine, to(same, 240), four(a[0], a[1]), b[0], b[1])
	steps(t, "no places", mine, to(same), four(a[0], a[1]))
	steps(t, "one wanted twice", mine, to("q 1 r 2 q 1"), four("q", "r"))
	steps(t, "one wanted twice, with two sums", mine, to("q 1 r 2 q 2"), four("q", "r"))
	steps(t, "two sums, mine first", mine, to(same+a[0]+" 9", 53), four(a[0]), a[0])
	steps(t, "two sums, mine last", mine, to(a[0]+" 9 "+same, 53), four(a[0]), a[0])
	steps(t, "three sums, mine first and last", mine, to(same+a[0]+" 9 "+same, 53), four(a[0]), a[0])
	long := strings.Repeat("x", 300)
	steps(t, "keys that may not be", mine, api.Swap{Step: 3, Places: []int{}, Keys: []api.Sum{{Key: ""}, {Key: long}}}, four("", long))
	zero := planted("")
	zero.Put(a[0], [32]byte{})
	steps(t, "a sum of zeros is one", zero, to("", 53), four(), a[0])
	steps(t, "theirs is one, too", tree.New(), api.Swap{Step: 3, Places: []int{53}, Keys: []api.Sum{{Key: a[0]}}}, four(a[0]))
}

func TestToWants(t *testing.T) {
	mine := planted("a 1 b 2")
	for what, want := range map[string][]string{
		"one":                    {"a"},
		"in order":               {"z", "a", "q", "b"},
		"one twice":              {"a", "b", "a"},
		"one that isn't there":   {"nobody's"},
		"keys that may not be":   {"", strings.Repeat("x", 300)},
		"bytes that are no text": {"\xff\x00"},
	} {
		steps(t, what, mine, api.Swap{Step: 4, Want: want}, api.Swap{Step: 5}, want...)
	}
	steps(t, "none", mine, api.Swap{Step: 4, Want: []string{}}, api.Swap{})
}

func TestToAllElse(t *testing.T) {
	for _, step := range []int{0, 5, 6, 7, -1, -4, 257, 1 << 32, 1<<32 + 1, math.MinInt, math.MaxInt} {
		steps(t, fmt.Sprint("step ", step), planted("a 1 b 2"), api.Swap{Step: step}, api.Swap{})
	}
}

func TestStepWithoutATree(t *testing.T) {
	for step := -1; step <= 6; step++ {
		steps(t, fmt.Sprint("step ", step), nil, api.Swap{Step: step}, api.Swap{})
	}
}
