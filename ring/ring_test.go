package ring_test

import (
	"fmt"
	"math"
	"math/rand"
	"strings"
	"testing"

	"murmuration/api"
	"murmuration/ring"
)

var (
	three = api.Owners{1, 2, 3, 1, 2, 3, 1, 2}
	four  = api.Owners{1, 2, 3, 4, 1, 2, 3, 4}
	gaps  = api.Owners{0, 5, -3, 7, 5, 0, 9, math.MinInt}
)

func is(t *testing.T, what string, got, want any) {
	t.Helper()
	if g, w := fmt.Sprint(got), fmt.Sprint(want); g != w {
		t.Errorf("%s: %s, want %s", what, g, w)
	}
}

func TestPartitionIsTheSecondByteOfTheSum(t *testing.T) {
	for _, c := range []struct {
		key  string
		want int
	}{{"", 0}, {"a", 7}, {"b", 3}, {"abc", 0}, {"key", 0}, {"\x00", 4}, {"\xff", 0}, {"a/b", 4}, {strings.Repeat("x", 1000000), 7}} {
		is(t, fmt.Sprintf("Partition of %.10q", c.key), ring.Partition(c.key), c.want)
	}
}

func TestPartitionsAreAllThere(t *testing.T) {
	var keys [8]int
	for i := range 4000 {
		p := ring.Partition(fmt.Sprint("key", i))
		if p < 0 || p > 7 {
			t.Fatalf("key%d has partition %d", i, p)
		}
		keys[p]++
	}
	for p, n := range keys {
		if n < 400 || n > 600 {
			t.Errorf("partition %d has %d of 4000 keys", p, n)
		}
	}
}

func TestPrimaries(t *testing.T) {
	for _, c := range []struct {
		name string
		o    api.Owners
		p, n int
		want []int
	}{
		{"the chapter's first", three, 2, 3, []int{3, 1, 2}},
		{"the chapter's second", three, 6, 2, []int{1, 2}},
		{"round the ring, each once", three, 7, 3, []int{2, 1, 3}},
		{"of the last partition", four, 7, 4, []int{4, 1, 2, 3}},
		{"fewer than n", three, 0, 4, []int{1, 2, 3}},
		{"n beyond all", three, 1, math.MaxInt, []int{2, 3, 1}},
		{"one", three, 1, 1, []int{2}},
		{"none", three, 1, 0, nil},
		{"n below 0", three, 1, -1, nil},
		{"n least of all", three, 1, math.MinInt, nil},
		{"p modulo 8", three, 10, 3, []int{3, 1, 2}},
		{"p is 8", four, 8, 2, []int{1, 2}},
		{"p greatest of all", three, math.MaxInt, 3, []int{2, 1, 3}},
		{"p below 0 is 0", four, -1, 2, []int{1, 2}},
		{"p far below 0 is 0", four, -5, 2, []int{1, 2}},
		{"p least of all", four, math.MinInt, 2, []int{1, 2}},
		{"nobody left out", gaps, 0, 3, []int{5, 7, 9}},
		{"nobody left out, at the end", gaps, 5, 2, []int{9, 5}},
		{"nobody owns anything", api.Owners{}, 3, 3, nil},
		{"below 0 is nobody", api.Owners{-1, -2, -1, -1, -1, -1, -1, -1}, 0, 3, nil},
		{"one owns all", api.Owners{4, 4, 4, 4, 4, 4, 4, 4}, 5, 3, []int{4}},
		{"one owns one", api.Owners{0, 0, 0, 6}, 4, 3, []int{6}},
		{"each another one", api.Owners{8, 7, 6, 5, 4, 3, 2, 1}, 6, 8, []int{2, 1, 8, 7, 6, 5, 4, 3}},
		{"great numbers", api.Owners{math.MaxInt, 1 << 40, math.MaxInt}, 1, 3, []int{1 << 40, math.MaxInt}},
	} {
		is(t, c.name, ring.Primaries(c.o, c.p, c.n), c.want)
	}
}

func TestSloppy(t *testing.T) {
	five := api.Owners{1, 2, 3, 4, 5, 1, 2, 3}
	for _, c := range []struct {
		name string
		o    api.Owners
		p, n int
		up   []int
		want []api.Target
	}{
		{"the chapter's", four, 0, 3, []int{1, 3, 4}, []api.Target{{Node: 1, For: 1}, {Node: 4, For: 2}, {Node: 3, For: 3}}},
		{"all are up", four, 0, 3, []int{4, 3, 2, 1}, []api.Target{{Node: 1, For: 1}, {Node: 2, For: 2}, {Node: 3, For: 3}}},
		{"by the walk, not by up", four, 2, 3, []int{1, 2, 3, 4}, []api.Target{{Node: 3, For: 3}, {Node: 4, For: 4}, {Node: 1, For: 1}}},
		{"one is up, and stands in for the first", four, 0, 3, []int{4}, []api.Target{{Node: 4, For: 1}}},
		{"nobody is left to stand in", four, 0, 3, []int{3, 4}, []api.Target{{Node: 4, For: 1}, {Node: 3, For: 3}}},
		{"two stand in", five, 0, 3, []int{2, 4, 5}, []api.Target{{Node: 4, For: 1}, {Node: 2, For: 2}, {Node: 5, For: 3}}},
		{"who is not up stands in for nobody", five, 0, 3, []int{2, 5}, []api.Target{{Node: 5, For: 1}, {Node: 2, For: 2}}},
		{"they stand in as the walk goes on", five, 3, 2, []int{2, 1}, []api.Target{{Node: 1, For: 4}, {Node: 2, For: 5}}},
		{"nobody is up", four, 0, 3, nil, nil},
		{"up twice is up once", four, 0, 3, []int{4, 4, 4}, []api.Target{{Node: 4, For: 1}}},
		{"up are strangers and nobody", four, 0, 3, []int{9, 0, -1}, nil},
		{"n is all", four, 0, 4, []int{4, 1}, []api.Target{{Node: 1, For: 1}, {Node: 4, For: 4}}},
		{"n beyond all", four, 0, math.MaxInt, []int{4, 1}, []api.Target{{Node: 1, For: 1}, {Node: 4, For: 4}}},
		{"n is 0", four, 0, 0, []int{1, 2, 3, 4}, nil},
		{"n below 0", four, 0, math.MinInt, []int{1, 2, 3, 4}, nil},
		{"p below 0", four, -7, 1, []int{1, 2, 3, 4}, []api.Target{{Node: 1, For: 1}}},
		{"p modulo 8", four, 9, 1, []int{1, 2, 3, 4}, []api.Target{{Node: 2, For: 2}}},
		{"p greatest of all", four, math.MaxInt, 1, []int{1, 2, 3}, []api.Target{{Node: 1, For: 4}}},
		{"nobody owns anything", api.Owners{}, 0, 3, []int{0, 1, 2}, nil},
		{"nobody is nobody's", gaps, 0, 2, []int{0, -3, 9, math.MinInt}, []api.Target{{Node: 9, For: 5}}},
	} {
		is(t, c.name, ring.Sloppy(c.o, c.p, c.n, c.up...), c.want)
	}
}

func TestOwned(t *testing.T) {
	for _, c := range []struct {
		name string
		o    api.Owners
		node int
		want []int
	}{
		{"three", three, 2, []int{1, 4, 7}},
		{"two", three, 3, []int{2, 5}},
		{"a stranger", three, 4, nil},
		{"nobody", gaps, 0, nil},
		{"nobody below 0", gaps, -3, nil},
		{"nobody least of all", gaps, math.MinInt, nil},
		{"beside nobody", gaps, 5, []int{1, 4}},
		{"all", api.Owners{7, 7, 7, 7, 7, 7, 7, 7}, 7, []int{0, 1, 2, 3, 4, 5, 6, 7}},
		{"a great number", api.Owners{3: math.MaxInt}, math.MaxInt, []int{3}},
	} {
		is(t, c.name, ring.Owned(c.o, c.node), c.want)
	}
}

func TestClaim(t *testing.T) {
	ones := api.Owners{1, 1, 1, 1, 1, 1, 1, 1}
	for _, c := range []struct {
		name    string
		o       api.Owners
		members []int
		want    api.Owners
	}{
		{"the chapter's first", api.Owners{}, []int{1, 2, 3}, api.Owners{1, 1, 1, 2, 2, 2, 3, 3}},
		{"the chapter's second", three, []int{1, 2, 3, 4}, api.Owners{1, 2, 3, 1, 2, 3, 4, 4}},
		{"members in any order, more than once, nobody among them", api.Owners{}, []int{3, 0, 1, 2, 1, -5, 3, math.MinInt}, api.Owners{1, 1, 1, 2, 2, 2, 3, 3}},
		{"without members", three, nil, api.Owners{}},
		{"without members that count", three, []int{0, -1}, api.Owners{}},
		{"without members and owners", gaps, nil, api.Owners{}},
		{"one member", three, []int{2}, api.Owners{2, 2, 2, 2, 2, 2, 2, 2}},
		{"a stranger alone", three, []int{9}, api.Owners{9, 9, 9, 9, 9, 9, 9, 9}},
		{"one less", three, []int{1, 3}, api.Owners{1, 1, 3, 1, 3, 3, 1, 3}},
		{"others alone", three, []int{5, 4}, api.Owners{4, 4, 4, 4, 5, 5, 5, 5}},
		{"nothing to change", three, []int{1, 2, 3}, three},
		{"one owned all: it keeps the first", ones, []int{1, 2}, api.Owners{1, 1, 1, 1, 2, 2, 2, 2}},
		{"who owned most has one more", api.Owners{3, 3, 3, 3, 3, 2, 2, 1}, []int{1, 2, 3}, api.Owners{3, 3, 3, 1, 2, 2, 2, 1}},
		{"of as many the least numbers have one more", api.Owners{3, 3, 3, 2, 2, 2, 1, 1}, []int{1, 2, 3}, api.Owners{3, 3, 3, 2, 2, 2, 1, 1}},
		{"of as many, all three of them", api.Owners{6, 5, 4, 0, 0, 0, 0, 0}, []int{4, 5, 6}, api.Owners{6, 5, 4, 4, 4, 5, 5, 6}},
		{"nobody's are given away", gaps, []int{5, 7, 9}, api.Owners{5, 5, 7, 7, 5, 7, 9, 9}},
		{"owners that are no members lose all", api.Owners{8, 8, 8, 8, 1, 1, 1, 1}, []int{1, 2}, api.Owners{2, 2, 2, 2, 1, 1, 1, 1}},
		{"five: three of them have two", api.Owners{}, []int{1, 2, 3, 4, 5}, api.Owners{1, 1, 2, 2, 3, 3, 4, 5}},
		{"seven", three, []int{1, 2, 3, 4, 5, 6, 7}, api.Owners{1, 2, 3, 1, 4, 5, 6, 7}},
		{"eight", three, []int{1, 2, 3, 4, 5, 6, 7, 8}, api.Owners{1, 2, 3, 4, 5, 6, 7, 8}},
		{"nine: one has none", three, []int{1, 2, 3, 4, 5, 6, 7, 8, 9}, api.Owners{1, 2, 3, 4, 5, 6, 7, 8}},
		{"nine: those that own something keep one", api.Owners{9, 9, 8, 8}, []int{1, 2, 3, 4, 5, 6, 7, 8, 9}, api.Owners{9, 1, 8, 2, 3, 4, 5, 6}},
		{"great numbers", api.Owners{math.MaxInt, math.MaxInt}, []int{math.MaxInt, 1}, api.Owners{math.MaxInt, math.MaxInt, 1, 1, 1, 1, math.MaxInt, math.MaxInt}},
	} {
		is(t, c.name, ring.Claim(c.o, c.members...), c.want)
	}
}

func TestClaimOfVeryManyMembers(t *testing.T) {
	members := make([]int, 0, 300000)
	for i := range 100000 {
		members = append(members, 100000-i, -i, 100000-i)
	}
	is(t, "of nobody", ring.Claim(api.Owners{}, members...), api.Owners{1, 2, 3, 4, 5, 6, 7, 8})
	late := api.Owners{100000, 99999, 100000, 7, 100001}
	claimed := ring.Claim(late, members...)
	is(t, "of some", claimed, api.Owners{100000, 99999, 1, 7, 2, 3, 4, 5})
	is(t, "Balanced", fmt.Sprint(ring.Balanced(claimed, members...), ring.Balanced(late, members...)), "true false")
}

func TestBalanced(t *testing.T) {
	for _, c := range []struct {
		name    string
		o       api.Owners
		members []int
		want    bool
	}{
		{"three", three, []int{1, 2, 3}, true},
		{"members more than once, in any order, nobody among them", three, []int{3, 3, 0, 2, -1, 1, 3}, true},
		{"one has none yet", three, []int{1, 2, 3, 4}, false},
		{"a stranger owns some", three, []int{1, 2}, false},
		{"a stranger owns one", api.Owners{1, 2, 1, 2, 1, 2, 1, 9}, []int{1, 2}, false},
		{"nobody owns one", api.Owners{1, 2, 1, 2, 1, 2, 1, 0}, []int{1, 2}, false},
		{"nobody owns one, and is said to be a member", api.Owners{1, 2, 1, 2, 1, 2, 1, 0}, []int{1, 2, 0}, false},
		{"below 0, said to be a member", api.Owners{1, 2, 1, 2, 1, 2, 1, -4}, []int{1, 2, -4}, false},
		{"alike", api.Owners{1, 2, 2, 1, 1, 1, 2, 2}, []int{1, 2}, true},
		{"further apart by 2", api.Owners{1, 2, 2, 1, 1, 1, 1, 2}, []int{1, 2}, false},
		{"3 3 2", api.Owners{2, 2, 2, 1, 1, 3, 3, 3}, []int{1, 2, 3}, true},
		{"4 2 2", api.Owners{2, 2, 2, 2, 1, 3, 3, 1}, []int{1, 2, 3}, false},
		{"one", api.Owners{6, 6, 6, 6, 6, 6, 6, 6}, []int{6}, true},
		{"another one", api.Owners{6, 6, 6, 6, 6, 6, 6, 6}, []int{5}, false},
		{"nine: one has none", api.Owners{1, 2, 3, 4, 5, 6, 7, 8}, []int{1, 2, 3, 4, 5, 6, 7, 8, 9}, true},
		{"nine: two have none", api.Owners{1, 2, 3, 4, 5, 6, 7, 7}, []int{1, 2, 3, 4, 5, 6, 7, 8, 9}, false},
		{"nobody owns anything, of two", api.Owners{}, []int{1, 2}, false},
		{"without members, nobody owns anything", api.Owners{}, nil, true},
		{"without members, below 0 is nobody", api.Owners{-1, 0, math.MinInt}, nil, true},
		{"without members that count, nobody owns anything", api.Owners{}, []int{0, -9}, true},
		{"without members, somebody owns one", api.Owners{7: 1}, nil, false},
		{"without members that count, somebody owns all", three, []int{0, -1}, false},
	} {
		is(t, c.name, ring.Balanced(c.o, c.members...), c.want)
	}
}

func TestTransfers(t *testing.T) {
	for _, c := range []struct {
		name string
		a, b api.Owners
		want []api.Transfer
	}{
		{"the chapter's", three, api.Owners{1, 2, 3, 1, 2, 3, 4, 4}, []api.Transfer{{Partition: 6, From: 1, To: 4}, {Partition: 7, From: 2, To: 4}}},
		{"and back", api.Owners{1, 2, 3, 1, 2, 3, 4, 4}, three, []api.Transfer{{Partition: 6, From: 4, To: 1}, {Partition: 7, From: 4, To: 2}}},
		{"nothing", three, three, nil},
		{"from nobody", api.Owners{}, three, nil},
		{"to nobody", three, api.Owners{}, nil},
		{"from and to nobody below 0", api.Owners{-1, 2, -1}, api.Owners{3, -1, -2}, nil},
		{"nobody beside somebody", api.Owners{0, 2, 3, -1}, api.Owners{1, 4, 0, -2}, []api.Transfer{{Partition: 1, From: 2, To: 4}}},
		{"all", four, api.Owners{4, 3, 2, 1, 4, 3, 2, 1}, []api.Transfer{
			{Partition: 0, From: 1, To: 4}, {Partition: 1, From: 2, To: 3}, {Partition: 2, From: 3, To: 2}, {Partition: 3, From: 4, To: 1},
			{Partition: 4, From: 1, To: 4}, {Partition: 5, From: 2, To: 3}, {Partition: 6, From: 3, To: 2}, {Partition: 7, From: 4, To: 1}}},
	} {
		is(t, c.name, ring.Transfers(c.a, c.b), c.want)
	}
}

func TestDrawnCallsAsTheWordsSay(t *testing.T) {
	r := rand.New(rand.NewSource(11))
	for range 40000 {
		most := 1 + r.Intn(10)
		o, other := drawnOwners(r, most), drawnOwners(r, most)
		nodes := drawnNodes(r, most)
		p, n, node := r.Intn(20)-4, r.Intn(11)-1, r.Intn(most+2)-1
		what := fmt.Sprint(o, other, nodes, p, n, node)
		is(t, "Primaries "+what, ring.Primaries(o, p, n), plainPrimaries(o, p, n))
		is(t, "Sloppy "+what, ring.Sloppy(o, p, n, nodes...), plainSloppy(o, p, n, nodes))
		is(t, "Owned "+what, ring.Owned(o, node), plainOwned(o, node))
		is(t, "Claim "+what, ring.Claim(o, nodes...), plainClaim(o, nodes))
		is(t, "Balanced "+what, ring.Balanced(o, nodes...), plainBalanced(o, nodes))
		is(t, "Transfers "+what, ring.Transfers(o, other), plainTransfers(o, other))
		if t.Failed() {
			return
		}
	}
}

func TestDrawnDivisionsAreBalancedOrNot(t *testing.T) {
	r := rand.New(rand.NewSource(12))
	balanced := 0
	for range 40000 {
		most := 1 + r.Intn(9)
		nodes := drawnNodes(r, most)
		o := plainClaim(drawnOwners(r, most), nodes)
		if r.Intn(2) == 0 {
			o[r.Intn(8)] = r.Intn(most+2) - 1
		}
		want := plainBalanced(o, nodes)
		if want {
			balanced++
		}
		if got := ring.Balanced(o, nodes...); got != want {
			t.Fatalf("Balanced %v of %v: %v", o, nodes, got)
		}
	}
	if balanced < 10000 || balanced > 36000 {
		t.Errorf("%d of 40000 are balanced: too few of one kind were drawn", balanced)
	}
}
