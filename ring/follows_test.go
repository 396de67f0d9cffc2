package ring_test

import (
	"math/rand"
	"slices"
	"testing"

	"murmuration/api"
	"murmuration/ring"
)

func alike(a, b api.Owners) int {
	n := 0
	for p := range a {
		if a[p] == b[p] {
			n++
		}
	}
	return n
}

// mostKept is how many partitions may stay at most, of all the ways in which members may have 8 / m or one more.
func mostKept(o api.Owners, nodes []int) int {
	least, more := 8/len(nodes), 8%len(nodes)
	var best func(i, more int) int
	best = func(i, more int) int {
		if len(nodes)-i < more {
			return -100
		}
		if i == len(nodes) {
			return 0
		}
		n := owns(o, nodes[i])
		kept := min(n, least) + best(i+1, more)
		if more > 0 {
			kept = max(kept, min(n, least+1)+best(i+1, more-1))
		}
		return kept
	}
	return best(0, more)
}

func claimHolds(t *testing.T, o api.Owners, nodes []int) {
	t.Helper()
	claimed := ring.Claim(o, nodes...)
	if !plainBalanced(claimed, nodes) || !ring.Balanced(claimed, nodes...) {
		t.Fatalf("Claim %v of %v is %v: not balanced", o, nodes, claimed)
	}
	if again := ring.Claim(claimed, nodes...); again != claimed {
		t.Fatalf("Claim %v of %v is %v, and claimed again %v", o, nodes, claimed, again)
	}
	if kept, want := alike(o, claimed), mostKept(o, nodes); kept != want {
		t.Fatalf("Claim %v of %v is %v: it keeps %d, and %d could stay", o, nodes, claimed, kept, want)
	}
}

func TestEachClaimOfThreeIsBalancedAndKeepsMost(t *testing.T) {
	all(4, func(o api.Owners) { claimHolds(t, o, []int{1, 2, 3}) })
}

func TestDrawnClaimsAreBalancedAndKeepMost(t *testing.T) {
	r := rand.New(rand.NewSource(13))
	for range 20000 {
		most := 1 + r.Intn(10)
		nodes := plainMembers(drawnNodes(r, most))
		if len(nodes) > 0 {
			claimHolds(t, drawnOwners(r, most), nodes)
		}
	}
}

func TestClaimsWithoutMembersAreBalanced(t *testing.T) {
	for _, o := range []api.Owners{{}, three, gaps} {
		claimed := ring.Claim(o)
		is(t, "Claim", claimed, api.Owners{})
		is(t, "Balanced", ring.Balanced(claimed), true)
		is(t, "again", ring.Claim(claimed), claimed)
	}
}

// Here every division there is is gone through, one by one.
func TestNoBalancedDivisionKeepsMore(t *testing.T) {
	nodes := []int{1, 2, 3}
	var balanced []api.Owners
	all(3, func(o api.Owners) {
		if ring.Balanced(o, nodes...) {
			balanced = append(balanced, o)
		}
	})
	is(t, "balanced divisions", len(balanced), 3*560) // 8! / (3! 3! 2!), and who has two
	r := rand.New(rand.NewSource(14))
	for range 500 {
		o := drawnOwners(r, 4)
		claimed := ring.Claim(o, nodes...)
		if !slices.Contains(balanced, claimed) {
			t.Fatalf("Claim %v is %v", o, claimed)
		}
		for _, b := range balanced {
			if alike(o, b) > alike(o, claimed) {
				t.Fatalf("Claim %v is %v, but %v keeps more", o, claimed, b)
			}
		}
	}
}

func TestTransfersAreWhatAClaimMoves(t *testing.T) {
	r := rand.New(rand.NewSource(15))
	for range 5000 {
		o := drawnOwners(r, 7)
		claimed := ring.Claim(o, drawnNodes(r, 7)...)
		moved := o
		for _, m := range ring.Transfers(o, claimed) {
			if moved[m.Partition] != m.From {
				t.Fatalf("%v to %v: %v", o, claimed, m)
			}
			moved[m.Partition] = m.To
		}
		for p := range moved {
			if o[p] > 0 && claimed[p] > 0 && moved[p] != claimed[p] {
				t.Fatalf("%v to %v: partition %d did not move", o, claimed, p)
			}
		}
	}
}

func TestTheNodesAskedAreUnlikeUpAndEnough(t *testing.T) {
	r := rand.New(rand.NewSource(16))
	for range 300 {
		o := drawnOwners(r, 5)
		for mask := range 32 {
			var up []int
			for node := 1; node <= 5; node++ {
				if mask>>(node-1)&1 == 1 {
					up = append(up, node)
				}
			}
			for n := range 7 {
				askedHold(t, o, r.Intn(8), n, up)
			}
		}
	}
}

func askedHold(t *testing.T, o api.Owners, p, n int, up []int) {
	t.Helper()
	asked := ring.Sloppy(o, p, n, up...)
	var nodes, stoodFor []int
	for _, a := range asked {
		if !slices.Contains(up, a.Node) || slices.Contains(nodes, a.Node) || slices.Contains(stoodFor, a.For) {
			t.Fatalf("Sloppy %v %d %d %v: %v", o, p, n, up, asked)
		}
		nodes, stoodFor = append(nodes, a.Node), append(stoodFor, a.For)
	}
	primaries := ring.Primaries(o, p, n)
	for _, node := range stoodFor {
		if !slices.Contains(primaries, node) {
			t.Fatalf("Sloppy %v %d %d %v: %v, of %v", o, p, n, up, asked, primaries)
		}
	}
	there := 0
	for _, node := range plainWalk(o, p) {
		if slices.Contains(up, node) {
			there++
		}
	}
	if len(asked) != min(n, there) {
		t.Fatalf("Sloppy %v %d %d %v: %v, and %d are up", o, p, n, up, asked, there)
	}
}
