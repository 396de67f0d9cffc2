package quorum_test

import (
	"fmt"
	"math/rand"
	"slices"
	"testing"

	"murmuration/api"
	"murmuration/cell"
	"murmuration/quorum"
)

// P16.3

// mixes are four targets, with each choice of which of them are prime.
func mixes() [][]api.Target {
	var all [][]api.Target
	for bits := range 16 {
		targets := primes(4)
		for i := range targets {
			if bits>>i&1 == 1 {
				targets[i].For = 7
			}
		}
		all = append(all, targets)
	}
	return all
}

// everyWay has all targets answer in each order, in each way, from how it stands on; it calls at each step.
func everyWay(said []int, n int, call func(said []int)) {
	call(said)
	for node := 1; node <= n; node++ {
		if !slices.Contains(said, node) && !slices.Contains(said, -node) {
			everyWay(append(slices.Clone(said), node), n, call)
			everyWay(append(slices.Clone(said), -node), n, call)
		}
	}
}

// after is a tally that heard these: a node's yes, or, below 0, its no.
func after(targets []api.Target, need, prime int, said []int) *quorum.Tally {
	x := quorum.New(targets, need, prime)
	hear(x, said...)
	return x
}

func hear(c counter, said ...int) {
	for _, node := range said {
		if node > 0 {
			c.Yes(node)
		} else {
			c.No(-node)
		}
	}
}

// A verdict is told as soon as it can be, and none that could come out otherwise: open means that both may still come.
func TestVerdictsStayAndAreToldAtOnce(t *testing.T) {
	for _, targets := range mixes() {
		for need := range 5 {
			for prime := range 5 {
				everyWay(nil, len(targets), func(said []int) {
					now := after(targets, need, prime, said)
					best, worst := after(targets, need, prime, said), after(targets, need, prime, said)
					best.Yes(now.Open()...)
					worst.No(now.Open()...)
					ends := [2]int{worst.Verdict(), best.Verdict()}
					want := map[[2]int]int{{1, 1}: 1, {2, 2}: 2, {2, 1}: 0}[ends]
					if ends == [2]int{1, 2} || now.Verdict() != want {
						t.Fatalf("%v, %d, %d, behind %v: Verdict %d, want %d; it ends as %v", targets, need, prime, said, now.Verdict(), want, ends)
					}
				})
			}
		}
	}
}

func TestAVerdictThatWasToldStays(t *testing.T) {
	for seed := range int64(2000) {
		r := rand.New(rand.NewSource(seed))
		targets, need, prime := drawnTargets(r), r.Intn(6)-1, r.Intn(5)-1
		for what, x := range both(targets, need, prime) {
			was := 0
			for range 20 {
				if was != 0 {
					is(t, fmt.Sprintf("seed %d: %s", seed, what), x.Verdict(), was)
				}
				was = x.Verdict()
				hear(x, r.Intn(15)-7)
			}
		}
	}
}

// Whatever order the answers come in: verdict, counts, cell and repairs are the same.
func TestTheOrderOfAnswersChangesNothing(t *testing.T) {
	for seed := range int64(200) {
		r := rand.New(rand.NewSource(seed))
		targets := primes(4)
		targets[r.Intn(4)].For = 6
		need, prime := r.Intn(5), r.Intn(5)
		answers := map[int]came{}
		for _, target := range targets {
			c := drawnCell(r)
			answers[target.Node] = []came{{true, &c}, {true, &c}, {yes: true}, {}}[r.Intn(4)]
		}
		first := ""
		orders([]int{1, 2, 3, 4}, func(l []int) {
			x := quorum.NewRead(targets, need, prime)
			for _, node := range l {
				answer(x, node, answers[node])
			}
			now := fmt.Sprint(x.Verdict(), told(x.Counts()), told(x.Cell()), x.Repairs(), x.Open())
			if first == "" {
				first = now
			}
			is(t, fmt.Sprintf("seed %d, in the order %v", seed, l), now, first)
		})
	}
}

func answer(r *quorum.Read, node int, c came) {
	switch {
	case c.cell != nil:
		r.Got(node, *c.cell)
	case c.yes:
		r.None(node)
	default:
		r.No(node)
	}
}

// Where every target is prime, a read and a write whose numbers are above all of them together meet in a target.
func TestQuorumsMeet(t *testing.T) {
	for n := 1; n <= 5; n++ {
		for w := 1; w <= n; w++ {
			for r := n - w + 1; r <= n; r++ {
				meet(t, n, w, r)
			}
		}
	}
}

func meet(t *testing.T, n, w, r int) {
	t.Helper()
	for wrote := range 1 << n {
		for got := range 1 << n {
			write, read := quorum.New(primes(n), w, 0), quorum.NewRead(primes(n), r, 0)
			for i := range n {
				hear(write, signed(wrote, i))
				hear(read, signed(got, i))
			}
			if write.Verdict() == 1 && read.Verdict() == 1 && wrote&got == 0 {
				t.Fatalf("of %d: %b wrote, %b read", n, wrote, got)
			}
		}
	}
}

// signed is the i-th node's yes, if its bit is there, or its no.
func signed(bits, i int) int {
	if bits>>i&1 == 1 {
		return i + 1
	}
	return -(i + 1)
}

// What a quorum wrote is in what each quorum reads that meets it, and who was away is repaired.
func TestAReadCoversWhatAQuorumWrote(t *testing.T) {
	old := set(1, "x")
	wrote := inserted(old, 2, "y")
	for away := 1; away <= 3; away++ {
		for silent := 1; silent <= 3; silent++ {
			r := quorum.NewRead(primes(3), 2, 2)
			var repairs []int
			for node := 1; node <= 3; node++ {
				switch node {
				case silent:
					r.No(node)
				case away:
					r.Got(node, old)
					repairs = append(repairs, node)
				default:
					r.Got(node, wrote)
				}
			}
			what := fmt.Sprintf("%d was away, %d is silent", away, silent)
			is(t, what, r.Verdict(), 1)
			tells(t, what, r, wrote, repairs...)
		}
	}
}

// R4

func TestAskingChangesNothing(t *testing.T) {
	r := quorum.NewRead(three, 2, 1)
	r.Got(4, set(1, "x"))
	r.None(1)
	for range 3 {
		stands(t, "the read", r, 1, []int{3}, 2, 1, 0)
		tells(t, "the read", r, set(1, "x"), 1)
	}
	is(t, "it still hears", r.Got(3, set(2, "y")), true)
	tells(t, "the read", r, cell.Join(set(1, "x"), set(2, "y")), 1, 4, 3)
}

// Tallies know nothing of one another.
func TestTalliesAreApart(t *testing.T) {
	a, b := quorum.NewRead(three, 2, 1), quorum.NewRead(three, 2, 1)
	a.Got(1, set(1, "x"))
	a.No(4)
	stands(t, "the other one", b, 0, []int{1, 4, 3}, 0, 0, 0)
	tellsNone(t, "the other one", b)
}
