package gossip_test

import (
	"math/rand"
	"testing"

	"murmuration/api"
	"murmuration/gossip"
	"murmuration/ring"
)

// P12.5

func TestMergeHangsOnNoOrderAndNoGrouping(t *testing.T) {
	r := rand.New(rand.NewSource(24))
	for range 20000 {
		a, b, c := drawn(r), drawn(r), drawn(r)
		want := text(gossip.Merge(a, b, c))
		for _, got := range []api.Ring{
			gossip.Merge(a, c, b), gossip.Merge(b, a, c), gossip.Merge(b, c, a), gossip.Merge(c, a, b), gossip.Merge(c, b, a),
			gossip.Merge(gossip.Merge(a, b), c), gossip.Merge(a, gossip.Merge(b, c)), gossip.Merge(gossip.Merge(c, a), b),
			gossip.Merge(a, b, c, a), gossip.Merge(a, a, b, b, c, c), gossip.Merge(gossip.Merge(a, b), gossip.Merge(b, c)),
			gossip.Merge(gossip.Norm(a), gossip.Norm(b), gossip.Norm(c)), gossip.Merge(api.Ring{}, a, b, c, api.Ring{}),
		} {
			if text(got) != want {
				t.Fatalf("of %s; %s; %s: %s, and %s", text(a), text(b), text(c), text(got), want)
			}
		}
		if text(gossip.Merge(a, a)) != text(gossip.Norm(a)) {
			t.Fatalf("of %s twice: %s", text(a), text(gossip.Merge(a, a)))
		}
	}
}

// newerThan holds, if the change outlives a Merge with what was there, and leaves nothing said twice in two ways.
func newerThan(t *testing.T, what string, was, now api.Ring) {
	t.Helper()
	if text(gossip.Merge(was, now)) != text(now) || text(gossip.Merge(now, was)) != text(now) {
		t.Fatalf("%s: of %s: %s, merged %s", what, text(was), text(now), text(gossip.Merge(was, now)))
	}
	had := map[int]api.Member{}
	for _, m := range was.Members {
		had[m.Node] = m
	}
	for _, m := range now.Members {
		if old, there := had[m.Node]; m != old && m.V != old.V+1 || there && m.State == old.State && m.V != old.V {
			t.Fatalf("%s: of %s: %s", what, text(was), text(now))
		}
	}
	for p, o := range now.Owners {
		if old := was.Owners[p]; (o.Node == old.Node) != (o.V == old.V) || o.V != old.V && o.V != old.V+1 {
			t.Fatalf("%s: of %s: %s", what, text(was), text(now))
		}
	}
}

func TestWhatChangesIsNewer(t *testing.T) {
	r := rand.New(rand.NewSource(25))
	for range 6000 {
		was := drawnYoung(r)
		for node := 1; node <= 7; node++ {
			newerThan(t, "Join", was, gossip.Join(was, node))
			newerThan(t, "Leave", was, gossip.Leave(was, node))
			newerThan(t, "Plan", was, gossip.Plan(was, node))
		}
	}
}

func TestWhatIsPlannedIsBalancedAndStays(t *testing.T) {
	r := rand.New(rand.NewSource(26))
	for range 20000 {
		d := drawn(r)
		claimant := gossip.Claimant(d)
		if claimant == 0 {
			continue
		}
		planned := gossip.Plan(d, claimant)
		joined := gossip.Members(planned, api.Joined)
		if !ring.Balanced(gossip.Owners(planned), joined...) || len(gossip.Members(planned, api.Leaving)) > 0 {
			t.Fatalf("Plan of %s: %s", text(d), text(planned))
		}
		if text(gossip.Plan(planned, claimant)) != text(planned) || gossip.Claimant(planned) != claimant {
			t.Fatalf("Plan of %s: %s, planned again %s", text(d), text(planned), text(gossip.Plan(planned, claimant)))
		}
	}
}

// nodes are seven that change their rings, each one by itself, and hear of others' now and then.
type nodes [7]api.Ring

func (n *nodes) step(r *rand.Rand) {
	at, other := r.Intn(7), r.Intn(7)
	switch r.Intn(6) {
	case 0:
		n[at] = gossip.Join(n[at], 1+r.Intn(7))
	case 1:
		n[at] = gossip.Leave(n[at], 1+r.Intn(7))
	case 2:
		n[at] = gossip.Plan(n[at], at+1)
	case 3: // whoever says so: the least node need not be one that runs
		n[at] = gossip.Plan(n[at], gossip.Claimant(n[at]))
	default:
		n[at] = gossip.Merge(n[at], n[other])
	}
}

// all has each one merge what all have, each in an order of its own.
func (n *nodes) all(r *rand.Rand) {
	said := *n
	for i := range n {
		for _, j := range r.Perm(7) {
			n[i] = gossip.Merge(n[i], said[j])
		}
	}
}

func (n *nodes) alike(t *testing.T) {
	t.Helper()
	for _, other := range n[1:] {
		if !gossip.Same(n[0], other) || text(n[0]) != text(other) || gossip.Bytes(n[0]) != gossip.Bytes(other) {
			t.Fatalf("%s, and %s", text(n[0]), text(other))
		}
	}
}

func TestAllComeToSayTheSame(t *testing.T) {
	r := rand.New(rand.NewSource(27))
	planned := 0
	for range 3000 {
		var n nodes
		for i := range n {
			n[i] = gossip.New(1 + r.Intn(7))
		}
		for range r.Intn(60) {
			n.step(r)
		}
		n.all(r)
		n.alike(t)
		claimant := gossip.Claimant(n[0])
		if claimant == 0 {
			continue
		}
		planned++
		n[claimant-1] = gossip.Plan(n[claimant-1], claimant)
		n.all(r)
		n.alike(t)
		joined := gossip.Members(n[0], api.Joined)
		if !ring.Balanced(gossip.Owners(n[0]), joined...) || len(gossip.Members(n[0], api.Leaving)) > 0 {
			t.Fatalf("at last %s", text(n[0]))
		}
	}
	if planned < 2500 {
		t.Errorf("of 3000 only %d had a claimant", planned)
	}
}

// Here two have not heard of one another, and both take themselves for the claimant.
func TestTwoThatPlanApart(t *testing.T) {
	first := gossip.Plan(gossip.Join(gossip.Join(gossip.New(1), 2), 3), 1)
	here := gossip.Plan(gossip.Leave(first, 3), 1)
	there := gossip.Plan(gossip.Leave(gossip.Join(first, 4), 1), 2)
	tells(t, "here", here, "1/1/1 2/1/1 3/3/3 | 1:1x3 2:2x3 1:3 2:3")
	tells(t, "there", there, "1/3/3 2/1/1 3/1/1 4/1/1 | 3:2 4:2x2 2:2x3 3:2x2")
	both := gossip.Merge(here, there)
	tells(t, "both", both, "1/3/3 2/1/1 3/3/3 4/1/1 | 3:2 4:2x2 2:2x3 1:3 2:3")
	is(t, "Claimant", gossip.Claimant(both), 2)
	tells(t, "planned", gossip.Plan(both, 2), "1/3/3 2/1/1 3/3/3 4/1/1 | 4:3 4:2x2 2:2x3 4:4 2:3")
}

// With nobody Joined there is nobody that plans: all stays, till one joins.
func TestNobodyIsLeft(t *testing.T) {
	r := gossip.Leave(gossip.New(1), 1)
	for node := range 9 {
		tells(t, "Plan", gossip.Plan(r, node), "1/2/2 | 1:1x8")
	}
	r = gossip.Join(r, 5)
	is(t, "Claimant", gossip.Claimant(r), 5)
	tells(t, "Plan", gossip.Plan(r, 5), "1/3/3 5/1/1 | 5:2x8")
}
