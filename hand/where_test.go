package hand_test

import (
	"fmt"
	"math"
	"math/rand"
	"slices"
	"testing"

	"murmuration/api"
	"murmuration/hand"
)

// P18.1

var four = api.Owners{1, 2, 3, 4, 1, 2, 3, 4}

func home(o api.Owners, partition, node int, up ...int) string {
	return fmt.Sprint(hand.Home(o, partition, node, up...))
}

func TestHome(t *testing.T) {
	for _, x := range []struct {
		partition, node int
		up              []int
		want            string
	}{
		{0, 4, []int{2, 3}, "2 true"},
		{0, 4, []int{3, 2}, "2 true"},
		{0, 4, []int{3, 2, 1}, "1 true"},
		{0, 4, []int{3, 3}, "3 true"},
		{0, 4, []int{4}, "0 false"},
		{0, 4, []int{4, 5, 0, -1, 3}, "3 true"},
		{0, 4, nil, "0 false"},
		{0, 1, []int{1, 2}, "0 false"},
		{0, 2, []int{1, 2}, "0 false"},
		{0, 3, []int{1, 2}, "0 false"},
		{1, 1, []int{1, 2, 3, 4}, "2 true"},
		{1, 4, []int{1, 2, 3}, "0 false"},
		{6, 2, []int{1, 4}, "4 true"},
		{7, 3, []int{1, 2}, "1 true"},
		{0, 9, []int{9, 3}, "3 true"},
		{0, 0, []int{0, 3}, "3 true"},
		{0, -5, []int{-5, 3}, "3 true"},
		{8, 4, []int{2, 3}, "2 true"},
		{9, 1, []int{1, 2, 3, 4}, "2 true"},
		{-3, 4, []int{2, 3}, "2 true"},
		{math.MaxInt, 3, []int{1, 2, 4}, "4 true"},
		{math.MinInt, 4, []int{2, 3}, "2 true"},
	} {
		is(t, fmt.Sprint(x.partition, x.node, x.up), home(four, x.partition, x.node, x.up...), x.want)
	}
}

func TestHomeOfOtherRings(t *testing.T) {
	nobody := api.Owners{}
	is(t, "nobody owns anything", home(nobody, 0, 1, 1, 2, 0), "0 false")
	is(t, "nobody by other numbers", home(api.Owners{-1, 0, -7}, 0, 1, 0, -1, -7), "0 false")
	alone := api.Owners{0, 0, 0, 5}
	is(t, "one who owns all", home(alone, 0, 1, 5), "5 true")
	is(t, "that one", home(alone, 0, 5, 5), "0 false")
	is(t, "that one is down", home(alone, 0, 1, 1, 2), "0 false")
	gaps := api.Owners{0, 7, 0, 7, 2, -1, 2, 3}
	is(t, "nobody is left out", home(gaps, 2, 1, 3), "3 true")
	is(t, "each one once", home(gaps, 0, 3, 2), "0 false")
}

func TestStrangers(t *testing.T) {
	all := "[0 1 2 3 4 5 6 7]"
	for node, want := range map[int]string{1: "[1 5]", 2: "[2 6]", 3: "[3 7]", 4: "[0 4]", 5: all, 9: all, 0: all, -1: all} {
		is(t, fmt.Sprint("node ", node), hand.Strangers(four, node), want)
	}
	for node := 1; node <= 3; node++ {
		is(t, "three nodes have all", hand.Strangers(api.Owners{1, 1, 1, 2, 2, 2, 3, 3}, node), "[]")
	}
	is(t, "nobody owns anything", hand.Strangers(api.Owners{}, 1), all)
	is(t, "nobody is no node", hand.Strangers(api.Owners{0, 0, -1}, 0), all)
	is(t, "one who owns all", hand.Strangers(api.Owners{6: 4}, 4), "[]")
	is(t, "another one", hand.Strangers(api.Owners{6: 4}, 3), all)
	// From 6 on the walk is 7, 1 and, as 1 counts once, 2.
	is(t, "seven nodes", hand.Strangers(api.Owners{1, 2, 3, 4, 5, 6, 7, 1}, 2), "[2 3 4 5]")
}

// primaries are the first three of the walk, by the chapter's words alone.
func primaries(o api.Owners, partition int) []int {
	var l []int
	for i := range 8 {
		owner := o[(max(partition, 0)%8+i)%8]
		if owner > 0 && !slices.Contains(l, owner) && len(l) < 3 {
			l = append(l, owner)
		}
	}
	return l
}

func TestDrawnRings(t *testing.T) {
	draw := rand.New(rand.NewSource(18))
	for range 3000 {
		var o api.Owners
		nodes := 1 + draw.Intn(8)
		for p := range o {
			o[p] = draw.Intn(nodes+1) - draw.Intn(2)
		}
		var up []int
		for range draw.Intn(6) {
			up = append(up, draw.Intn(10)-1)
		}
		node := draw.Intn(10) - 1
		var strange []int
		for p := -2; p < 19; p++ {
			l := primaries(o, p)
			here := slices.Contains(l, node)
			if !here && p >= 0 && p < 8 {
				strange = append(strange, p)
			}
			l = slices.DeleteFunc(l, func(n int) bool { return here || !slices.Contains(up, n) })
			want := fmt.Sprint(append(l, 0)[0], len(l) > 0)
			is(t, fmt.Sprint("Home ", o, p, node, up), home(o, p, node, up...), want)
		}
		is(t, fmt.Sprint("Strangers ", o, node), hand.Strangers(o, node), strange)
		if t.Failed() {
			t.FailNow()
		}
	}
}
