package quorum_test

import (
	"math"
	"testing"

	"murmuration/api"
	"murmuration/quorum"
)

// P16.1

func TestExamplesOfTallies(t *testing.T) {
	for what, x := range both(three, 2, 1) {
		is(t, what, told(x.Yes(4), x.Verdict(), x.Yes(4), x.Yes(3), x.Verdict()), told(true, 0, false, true, 1))
	}
	for what, x := range both(three, 2, 2) {
		is(t, what, told(x.No(3), x.Verdict()), told(true, 2))
	}
	is(t, "nothing, of none", quorum.New(nil, 0, 0).Verdict(), 1)
	is(t, "nothing, of one", quorum.New(nil, 1, 0).Verdict(), 2)
}

func TestNewHasAllOpen(t *testing.T) {
	for what, x := range both(three, 2, 1) {
		stands(t, what, x, 0, []int{1, 4, 3}, 0, 0, 0)
	}
	for what, x := range both(nil, 0, 0) {
		stands(t, what+" of nothing", x, 1, nil, 0, 0, 0)
	}
	for what, x := range both([]api.Target{}, 0, 1) {
		stands(t, what+" of nothing", x, 2, nil, 0, 0, 0)
	}
}

func TestYesAndNoOfOpenOnesAlone(t *testing.T) {
	for what, x := range both(three, 3, 0) {
		is(t, what+": of no target", told(x.Yes(2), x.No(2), x.Yes(0), x.No(-1), x.Yes(math.MaxInt), x.No(math.MinInt)), told(false, false, false, false, false, false))
		is(t, what+": of nobody", told(x.Yes(), x.No(), x.Yes([]int{}...), x.No(nil...)), told(false, false, false, false))
		stands(t, what+": nobody has said anything", x, 0, []int{1, 4, 3}, 0, 0, 0)

		is(t, what+": once", told(x.Yes(4), x.Yes(4), x.No(4), x.Yes(4)), told(true, false, false, false))
		stands(t, what+": a yes stays", x, 0, []int{1, 3}, 1, 0, 0)
		is(t, what+": once", told(x.No(1), x.No(1), x.Yes(1), x.No(1)), told(true, false, false, false))
		stands(t, what+": a no stays", x, 2, []int{3}, 1, 0, 1)
	}
}

func TestSeveralNodesAtOnce(t *testing.T) {
	for what, x := range both(primes(5), 3, 3) {
		is(t, what+": any of them", x.Yes(9, 3, 2, 3), true)
		stands(t, what, x, 0, []int{1, 4, 5}, 2, 2, 0)
		is(t, what+": any of them", x.No(2, 3, 5), true)
		stands(t, what, x, 0, []int{1, 4}, 2, 2, 1)
		is(t, what+": none of them", told(x.Yes(2, 3, 5, 9), x.No(2, 3, 5, 9)), told(false, false))
		is(t, what+": the first of them", x.Yes(1, 5, 9), true)
		stands(t, what, x, 1, []int{4}, 3, 3, 1)
	}
}

func TestOpenIsInTheTargetsOrder(t *testing.T) {
	for what, x := range both([]api.Target{{Node: 7, For: 7}, {Node: 2, For: 3}, {Node: 5, For: 5}, {Node: 1, For: 9}}, 2, 1) {
		is(t, what, x.Open(), []int{7, 2, 5, 1})
		x.Yes(5)
		is(t, what, x.Open(), []int{7, 2, 1})
		x.No(7)
		is(t, what, x.Open(), []int{2, 1})
		x.No(1, 2)
		is(t, what, x.Open(), []int{})
	}
}

// Prime is who is asked for itself: 1 isn't though 2 stands in for it.
func TestPrimeOnes(t *testing.T) {
	targets := []api.Target{{Node: 2, For: 1}, {Node: 1, For: 2}, {Node: 3, For: 3}}
	for what, x := range both(targets, 0, 1) {
		x.Yes(1, 2)
		stands(t, what, x, 0, []int{3}, 2, 0, 0)
		x.Yes(3)
		stands(t, what, x, 1, nil, 3, 1, 0)
	}
	for what, x := range both(targets, 0, 1) {
		x.No(3)
		stands(t, what, x, 2, []int{2, 1}, 0, 0, 1)
	}
	for what, x := range both(targets, 0, 2) {
		stands(t, what+": there is one alone", x, 2, []int{2, 1, 3}, 0, 0, 0)
	}
}

// Both numbers are asked for, and neither one makes up for the other.
func TestNeedAndPrime(t *testing.T) {
	for what, x := range both(three, 1, 2) {
		x.Yes(1, 4)
		stands(t, what+": one prime one is wanting", x, 0, []int{3}, 2, 1, 0)
		x.Yes(3)
		stands(t, what, x, 1, nil, 3, 2, 0)
	}
	for what, x := range both(three, 3, 2) {
		x.Yes(1, 3)
		stands(t, what+": one is wanting", x, 0, []int{4}, 2, 2, 0)
		x.No(4)
		stands(t, what, x, 2, nil, 2, 2, 1)
	}
}

// Of targets with one Node the first one says whether it is prime, and where it stands.
func TestTargetsWithOneNode(t *testing.T) {
	twice := []api.Target{{Node: 1, For: 2}, {Node: 3, For: 3}, {Node: 1, For: 1}, {Node: 3, For: 4}, {Node: 1, For: 2}}
	for what, x := range both(twice, 2, 1) {
		stands(t, what, x, 0, []int{1, 3}, 0, 0, 0)
		is(t, what+": once", told(x.Yes(1), x.Yes(1)), told(true, false))
		stands(t, what, x, 0, []int{3}, 1, 0, 0)
		is(t, what+": once", told(x.Yes(3), x.No(3)), told(true, false))
		stands(t, what, x, 1, nil, 2, 1, 0)
	}
	for what, x := range both(twice, 3, 0) {
		stands(t, what+": two are too few for three", x, 2, []int{1, 3}, 0, 0, 0)
	}
	for what, x := range both(twice, 0, 2) {
		stands(t, what+": one is prime", x, 2, []int{1, 3}, 0, 0, 0)
	}
}

func TestEnoughGoesAheadOfTooFew(t *testing.T) {
	for what, x := range both(primes(3), 2, 2) {
		x.Yes(1, 2)
		stands(t, what, x, 1, []int{3}, 2, 2, 0)
		x.No(3)
		stands(t, what, x, 1, nil, 2, 2, 1)
	}
	for what, x := range both(primes(2), 0, 0) {
		x.No(1, 2)
		stands(t, what+" that asks for nothing", x, 1, nil, 0, 0, 2)
	}
}

func TestNumbersBelowNoneAndBeyondAll(t *testing.T) {
	for _, below := range []int{-1, -2, math.MinInt} {
		for what, x := range both(three, below, below) {
			stands(t, what+": nothing is asked for", x, 1, []int{1, 4, 3}, 0, 0, 0)
		}
		for what, x := range both(three, 1, below) {
			stands(t, what+": one of any", x, 0, []int{1, 4, 3}, 0, 0, 0)
			x.No(1, 3)
			x.Yes(4)
			stands(t, what+": one of any", x, 1, nil, 1, 0, 2)
		}
		for what, x := range both(three, below, 1) {
			x.Yes(4)
			stands(t, what+": a prime one", x, 0, []int{1, 3}, 1, 0, 0)
			x.Yes(3)
			stands(t, what+": a prime one", x, 1, []int{1}, 2, 1, 0)
		}
		for what, x := range both(nil, below, below) {
			stands(t, what+" of nothing", x, 1, nil, 0, 0, 0)
		}
	}
	for _, beyond := range []int{4, 5, math.MaxInt} {
		for what, x := range both(three, beyond, 0) {
			stands(t, what, x, 2, []int{1, 4, 3}, 0, 0, 0)
			x.Yes(1, 4, 3)
			stands(t, what, x, 2, nil, 3, 2, 0)
		}
		for what, x := range both(three, 0, beyond) {
			stands(t, what, x, 2, []int{1, 4, 3}, 0, 0, 0)
		}
	}
}

// Nodes are any numbers here: the chapter leaves none out.
func TestNodesOfAnyNumber(t *testing.T) {
	for what, x := range both([]api.Target{{}, {Node: -1, For: 1}, {Node: math.MaxInt, For: math.MaxInt}, {Node: math.MinInt, For: math.MinInt}}, 3, 3) {
		stands(t, what, x, 0, []int{0, -1, math.MaxInt, math.MinInt}, 0, 0, 0)
		is(t, what, told(x.Yes(0), x.Yes(-1), x.Yes(math.MaxInt), x.Yes(math.MinInt)), told(true, true, true, true))
		stands(t, what, x, 1, nil, 4, 3, 0)
	}
}

func TestVeryManyTargets(t *testing.T) {
	const n = 200000
	all := primes(n)
	for what, x := range both(append(all, all...), n, n-1) {
		for node := n; node > 1; node-- {
			if !x.Yes(node) || x.Verdict() != 0 {
				t.Fatalf("%s: node %d: Verdict %d", what, node, x.Verdict())
			}
		}
		is(t, what, x.Open(), []int{1})
		x.Yes(1)
		stands(t, what, x, 1, nil, n, n, 0)
	}
}

// R1

func TestNilTallies(t *testing.T) {
	var none *quorum.Tally
	var noRead *quorum.Read
	for what, x := range map[string]counter{"tally": none, "read": noRead} {
		for range 2 {
			stands(t, "nil "+what, x, 2, nil, 0, 0, 0)
			is(t, "nil "+what, told(x.Yes(1), x.No(1), x.Yes(), x.No()), told(false, false, false, false))
		}
	}
}

func TestZeroTallies(t *testing.T) {
	for what, x := range map[string]counter{"tally": &quorum.Tally{}, "read": &quorum.Read{}} {
		for range 2 {
			stands(t, "zero "+what, x, 1, nil, 0, 0, 0)
			is(t, "zero "+what, told(x.Yes(0), x.No(0), x.Yes(), x.No()), told(false, false, false, false))
		}
	}
}
