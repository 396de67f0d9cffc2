package gossip_test

import (
	"math"
	"math/rand"
	"slices"
	"testing"

	"murmuration/api"
	"murmuration/gossip"
)

func TestTheChaptersExamples(t *testing.T) {
	a := gossip.New(1)
	b := gossip.Join(a, 2)
	is(t, "Claimant", gossip.Claimant(b), 1)
	is(t, "Owners", gossip.Owners(gossip.Plan(b, 1)), api.Owners{1, 1, 1, 1, 2, 2, 2, 2})
	tells(t, "Plan by another", gossip.Plan(b, 2), text(b))
	c := gossip.Leave(gossip.Plan(b, 1), 1)
	is(t, "Claimant", gossip.Claimant(c), 2)
	is(t, "Owners", gossip.Owners(gossip.Plan(c, 2)), api.Owners{2, 2, 2, 2, 2, 2, 2, 2})
	is(t, "State", gossip.State(gossip.Plan(c, 2), 1), api.Gone)
	tells(t, "Merge(a, c)", gossip.Merge(a, c), text(c))
	tells(t, "Merge(c, a)", gossip.Merge(c, a), text(c))
}

// notNodes are numbers that no node has.
var notNodes = []int{0, 8, -1, 9, 100, math.MinInt, math.MaxInt, 1 << 32, 1<<32 + 1, 257}

// norms are rings, and what they count as.
var norms = []struct{ name, r, want string }{
	{"nothing", "", ""},
	{"as it should be", "1/1/1 2/2/2 7/3/3 | 1:1x4 0:0 7:most 2:3 0:5", "1/1/1 2/2/2 7/3/3 | 1:1x4 0:0 7:most 2:3 0:5"},
	{"in no order", "7/1/1 1/1/1 3/1/1 2/1/1", "1/1/1 2/1/1 3/1/1 7/1/1"},
	{"the greater V", "3/1/2 3/1/1", "3/1/2"},
	{"the greater V, behind", "3/1/1 3/1/2", "3/1/2"},
	{"the greater V though a lesser state", "3/3/1 3/1/2 3/2/1", "3/1/2"},
	{"of the same V the greater state", "3/1/5 3/3/5 3/2/5", "3/3/5"},
	{"of the same V the greater state, first", "3/3/5 3/2/5 3/1/5", "3/3/5"},
	{"the same twice", "3/2/5 3/2/5", "3/2/5"},
	{"with others between", "3/1/1 2/1/1 3/2/1 1/1/9 3/1/2", "1/1/9 2/1/1 3/1/2"},
	{"V 0 counts", "3/1/0 2/2/0", "2/2/0 3/1/0"},
	{"V 0, of two states", "3/1/0 3/2/0", "3/2/0"},
	{"the greatest V", "3/2/0 3/1/most", "3/1/most"},
	{"the greatest V twice", "3/2/most 3/1/most", "3/2/most"},
	{"V as numbers without a sign", "3/1/9223372036854775808 3/3/9223372036854775807", "3/1/9223372036854775808"},
	{"nodes that may not be", "0/1/1 8/1/1 -1/1/1 1/1/1 7/1/1 9223372036854775807/1/1 -9223372036854775808/1/1", "1/1/1 7/1/1"},
	{"nodes that may not be, as bytes or words cut off", "257/1/9 4294967297/1/9 1/1/1", "1/1/1"},
	{"states that may not be", "1/0/1 2/4/1 3/-1/1 4/1/1 5/3/1 6/257/1 7/9223372036854775807/1", "4/1/1 5/3/1"},
	{"a newer one that may not be", "3/1/1 3/4/9 3/0/8", "3/1/1"},
	{"a newer one that may not be, first", "3/4/9 3/1/1", "3/1/1"},
	{"nothing but what may not be", "0/1/1 3/0/1", ""},
	{"owners that may not be", "| 8:5 -1:6 9:0 7:1 0:2 9223372036854775807:most -9223372036854775808:7 257:8", "| 0:5 0:6 0:0 7:1 0:2 0:most 0:7 0:8"},
	{"owners that are no members", "1/1/1 2/3/1 | 5:1x4 2:1x4", "1/1/1 2/3/1 | 5:1x4 2:1x4"},
}

// Norm

func TestNorm(t *testing.T) {
	for _, c := range norms {
		tells(t, c.name, gossip.Norm(at(c.r)), c.want)
		tells(t, c.name+", once more", gossip.Norm(gossip.Norm(at(c.r))), c.want)
	}
}

func TestNormOfManyMembers(t *testing.T) {
	var r api.Ring
	for i := range 200000 {
		r.Members = append(r.Members, api.Member{Node: i%11 - 1, State: i%5 - 1, V: uint64(i % 1000)})
	}
	tells(t, "Norm", gossip.Norm(r), text(plainNorm(r)))
}

// Each call takes a ring as its Norm, and tells one.
func TestEachCallTakesTheNorm(t *testing.T) {
	for _, c := range norms {
		r, norm := at(c.r), at(c.want)
		tells(t, c.name+": Merge", gossip.Merge(r), c.want)
		tells(t, c.name+": Merge of two", gossip.Merge(r, r), c.want)
		is(t, c.name+": Claimant", gossip.Claimant(r), gossip.Claimant(norm))
		is(t, c.name+": Members", gossip.Members(r), gossip.Members(norm))
		is(t, c.name+": those that are Joined", gossip.Members(r, api.Joined), gossip.Members(norm, api.Joined))
		is(t, c.name+": Owners", gossip.Owners(r), gossip.Owners(norm))
		is(t, c.name+": Same", gossip.Same(r, norm) && gossip.Same(norm, r), true)
		is(t, c.name+": Bytes", gossip.Bytes(r) == gossip.Bytes(norm), true)
		for node := -1; node < 10; node++ {
			tells(t, c.name+": Join", gossip.Join(r, node), text(gossip.Join(norm, node)))
			tells(t, c.name+": Leave", gossip.Leave(r, node), text(gossip.Leave(norm, node)))
			tells(t, c.name+": Plan", gossip.Plan(r, node), text(gossip.Plan(norm, node)))
			is(t, c.name+": State", gossip.State(r, node), gossip.State(norm, node))
		}
		for _, node := range notNodes {
			tells(t, c.name+": Join of no node", gossip.Join(r, node), c.want)
			tells(t, c.name+": Leave of no node", gossip.Leave(r, node), c.want)
			tells(t, c.name+": Plan of no node", gossip.Plan(r, node), c.want)
			is(t, c.name+": State of no node", gossip.State(r, node), 0)
		}
	}
}

// P12.1

func TestMerge(t *testing.T) {
	tells(t, "none", gossip.Merge(), "")
	tells(t, "no list", gossip.Merge([]api.Ring(nil)...), "")
	tells(t, "empty ones", gossip.Merge(api.Ring{}, api.Ring{}, api.Ring{Members: []api.Member{}}), "")
	for _, c := range []struct {
		name, want string
		l          []string
	}{
		{"one", "1/1/1 | 1:1x8", []string{"1/1/1 | 1:1x8"}},
		{"nodes of both", "1/1/1 2/2/2 3/3/3", []string{"1/1/1 3/3/3", "2/2/2"}},
		{"the newer member", "1/1/3 2/2/2", []string{"1/2/2 2/2/2", "1/1/3 2/1/1"}},
		{"the greater state", "1/3/2 2/2/0", []string{"1/3/2 2/1/0", "1/1/2 2/2/0"}},
		{"the newer owner", "| 1:2 2:3 3:1 0:9", []string{"| 1:2 5:1 3:1 7:8", "| 7:1 2:3 1:1 0:9"}},
		{"the greater node", "| 2:1 5:0 7:most 4:0", []string{"| 1:1 5:0 7:most 0:0", "| 2:1 3:0 6:most 4:0"}},
		{"of three, the last", "1/1/3 | 3:3x8", []string{"1/1/1 | 1:1x8", "1/2/2 | 2:2x8", "1/1/3 | 3:3x8"}},
		{"of three, the first", "1/1/3 | 3:3x8", []string{"1/1/3 | 3:3x8", "1/1/1 | 1:1x8", "1/2/2 | 2:2x8"}},
		{"of three, each one's own", "1/1/3 2/1/3 3/1/3 | 1:3 2:3 3:3", []string{"1/1/3 2/1/1 3/1/1 | 1:3 1:1 1:1", "1/1/1 2/1/3 3/1/1 | 2:1 2:3 2:1", "1/1/1 2/1/1 3/1/3 | 3:1 3:1 3:3"}},
		{"owners apart from members", "1/1/9 | 3:5x8", []string{"1/1/9 | 1:1x8", "1/1/1 | 3:5x8"}},
		{"of the same V what may not be counts as nobody", "| 3:5 4:5 0:6", []string{"| 9:5 4:5 100:6", "| 3:5 8:5 7:5"}},
		{"a member that may not be counts as none", "1/1/1", []string{"1/4/9 0/1/1", "1/1/1 8/1/1"}},
		{"with an empty one", "2/1/1 | 2:1x8", []string{"", "2/1/1 | 2:1x8", ""}},
	} {
		var l, back []api.Ring
		for _, s := range c.l {
			l = append(l, at(s))
			back = append([]api.Ring{at(s)}, back...)
		}
		tells(t, c.name, gossip.Merge(l...), c.want)
		tells(t, c.name+", from behind", gossip.Merge(back...), c.want)
	}
}

func TestMergeOfManyRings(t *testing.T) {
	var l []api.Ring
	for i := range 20000 {
		l = append(l, at("1/1/1 | 1:1x8"))
		l[i].Members[0].Node = 1 + i%7
		l[i].Members[0].V = uint64(i)
		l[i].Owners[i%8] = api.Owner{Node: i % 8, V: uint64(i)}
	}
	tells(t, "Merge", gossip.Merge(l...), text(plainMerge(l...)))
}

// P12.2

func TestNew(t *testing.T) {
	for node, want := range map[int]string{1: "1/1/1 | 1:1x8", 2: "2/1/1 | 2:1x8", 6: "6/1/1 | 6:1x8", 7: "7/1/1 | 7:1x8"} {
		tells(t, "New", gossip.New(node), want)
	}
	for _, node := range notNodes {
		tells(t, "New of no node", gossip.New(node), "")
	}
}

// changed is a ring, and how it is once a call of a node has changed it.
type changed struct {
	name, r string
	node    int
	want    string
}

func changes(t *testing.T, call func(api.Ring, int) api.Ring, l []changed) {
	t.Helper()
	for _, c := range l {
		tells(t, c.name, call(at(c.r), c.node), c.want)
	}
}

func TestJoin(t *testing.T) {
	changes(t, gossip.Join, []changed{
		{"one that wasn't there", "1/1/5 | 1:1x8", 2, "1/1/5 2/1/1 | 1:1x8"},
		{"ahead of others", "3/1/5 5/2/2", 1, "1/1/1 3/1/5 5/2/2"},
		{"between others", "3/1/5 5/2/2", 4, "3/1/5 4/1/1 5/2/2"},
		{"the last node", "1/1/1", 7, "1/1/1 7/1/1"},
		{"into nothing", "", 1, "1/1/1"},
		{"one that is Joined", "1/1/5 2/1/3 | 1:1x8", 2, "1/1/5 2/1/3 | 1:1x8"},
		{"one that is Joined, V 0", "2/1/0", 2, "2/1/0"},
		{"one that is Leaving", "1/1/5 2/2/3", 2, "1/1/5 2/1/4"},
		{"one that is Gone", "1/1/5 2/3/7", 2, "1/1/5 2/1/8"},
		{"one that is Gone, V 0", "2/3/0", 2, "2/1/1"},
		{"V just below the greatest", "2/3/18446744073709551614", 2, "2/1/most"},
		{"the greatest V", "2/3/most", 2, "2/1/most"},
		{"the greatest V, Leaving", "2/2/most", 2, "2/1/most"},
		{"an owner that wasn't there", "1/1/1 | 3:4x8", 3, "1/1/1 3/1/1 | 3:4x8"},
		{"by its newest member", "2/2/3 2/1/2 2/1/1", 2, "2/1/4"},
		{"whose newest is Joined", "2/2/3 2/1/4", 2, "2/1/4"},
		{"what may not be, ahead of it", "2/4/9", 2, "2/1/1"},
	})
	for _, node := range notNodes {
		tells(t, "no node", gossip.Join(at("1/1/5 | 1:1x8"), node), "1/1/5 | 1:1x8")
		tells(t, "no node, into nothing", gossip.Join(api.Ring{}, node), "")
	}
}

func TestLeave(t *testing.T) {
	changes(t, gossip.Leave, []changed{
		{"one of two", "1/1/5 2/1/3 | 1:1x4 2:2x4", 2, "1/1/5 2/2/4 | 1:1x4 2:2x4"},
		{"the only one", "1/1/1 | 1:1x8", 1, "1/2/2 | 1:1x8"},
		{"the last node", "1/1/1 7/1/1", 7, "1/1/1 7/2/2"},
		{"V 0", "2/1/0", 2, "2/2/1"},
		{"one that wasn't there", "1/1/5 | 2:1x8", 2, "1/1/5 | 2:1x8"},
		{"from nothing", "", 1, ""},
		{"one that is Leaving", "2/2/3", 2, "2/2/3"},
		{"one that is Gone", "2/3/3", 2, "2/3/3"},
		{"V just below the greatest", "2/1/18446744073709551614", 2, "2/2/most"},
		{"the greatest V", "2/1/most", 2, "2/2/most"},
		{"by its newest member", "2/1/3 2/2/2", 2, "2/2/4"},
		{"whose newest is Gone", "2/3/3 2/1/3", 2, "2/3/3"},
		{"what may not be", "8/1/3", 8, ""},
	})
	for _, node := range notNodes {
		tells(t, "no node", gossip.Leave(at("1/1/5 | 1:1x8"), node), "1/1/5 | 1:1x8")
	}
}

// P12.3

func TestClaimant(t *testing.T) {
	for _, c := range []struct {
		r    string
		want int
	}{
		{"", 0}, {"1/1/1", 1}, {"7/1/1", 7}, {"3/1/1 2/1/1 5/1/1", 2}, {"1/2/1 2/3/1 4/1/1 5/1/1", 4},
		{"1/2/1 2/3/1", 0}, {"3/1/0", 3}, {"0/1/1 -1/1/1 8/1/1", 0}, {"1/1/1 1/2/1 2/1/1", 2}, {"1/0/1 2/1/1", 2}, {"| 1:1x8", 0},
	} {
		is(t, "Claimant of "+c.r, gossip.Claimant(at(c.r)), c.want)
	}
}

func TestPlan(t *testing.T) {
	changes(t, gossip.Plan, []changed{
		{"for two", "1/1/1 2/1/1 | 1:1x8", 1, "1/1/1 2/1/1 | 1:1x4 2:2x4"},
		{"by another one", "1/1/1 2/1/1 | 1:1x8", 2, "1/1/1 2/1/1 | 1:1x8"},
		{"by one that is none", "1/1/1 2/1/1 | 1:1x8", 3, "1/1/1 2/1/1 | 1:1x8"},
		{"what is balanced", "1/1/1 2/1/1 | 2:5x4 1:6x4", 1, "1/1/1 2/1/1 | 2:5x4 1:6x4"},
		{"by the least that is Joined", "1/2/1 2/1/1 3/1/1 | 1:7x8", 2, "1/3/2 2/1/1 3/1/1 | 2:8x4 3:8x4"},
		{"not by the least that is Leaving", "1/2/1 2/1/1 3/1/1 | 1:7x8", 1, "1/2/1 2/1/1 3/1/1 | 1:7x8"},
		{"not by the least that is Gone", "1/3/1 2/1/1 | 1:7x8", 1, "1/3/1 2/1/1 | 1:7x8"},
		{"of nobody's", "2/1/1 5/1/1", 2, "2/1/1 5/1/1 | 2:1x4 5:1x4"},
		{"of nobody's that were said", "2/1/1 | 0:5 2:3 0:0 2:most 0:1x4", 2, "2/1/1 | 2:6 2:3 2:1 2:most 2:2x4"},
		{"of those that may not be", "2/1/1 | 9:5 2:3x6 -1:7", 2, "2/1/1 | 2:6 2:3x6 2:8"},
		{"of those that are no members", "1/1/1 | 4:2x8", 1, "1/1/1 | 1:3x8"},
		{"of those that are Gone", "1/1/1 2/3/9 | 2:2x8", 1, "1/1/1 2/3/9 | 1:3x8"},
		{"all that are Leaving are Gone", "1/1/1 2/2/3 3/2/0 7/2/5 | 1:1x3 2:2 3:3 7:4 4:5x2", 1, "1/1/1 2/3/4 3/3/1 7/3/6 | 1:1x3 1:3 1:4 1:5 1:6x2"},
		{"one that is Leaving and owns nothing", "1/1/1 2/2/3 | 1:1x8", 1, "1/1/1 2/3/4 | 1:1x8"},
		{"for three", "1/1/1 2/1/1 3/1/1 | 1:1x4 2:2x4", 1, "1/1/1 2/1/1 3/1/1 | 1:1x3 3:2 2:2x3 3:3"},
		{"for seven", "1/1/1 2/1/1 3/1/1 4/1/1 5/1/1 6/1/1 7/1/1 | 1:1x8", 1, "1/1/1 2/1/1 3/1/1 4/1/1 5/1/1 6/1/1 7/1/1 | 1:1x2 2:2 3:2 4:2 5:2 6:2 7:2"},
		{"V just below the greatest", "1/1/1 2/2/18446744073709551614 | 2:18446744073709551614x8", 1, "1/1/1 2/3/most | 1:mostx8"},
		{"the greatest V", "1/1/most 2/2/most | 2:mostx8", 1, "1/1/most 2/3/most | 1:mostx8"},
		{"nobody is Joined", "1/2/1 2/3/1 | 1:1x8", 1, "1/2/1 2/3/1 | 1:1x8"},
		{"nobody is Joined, and nobody plans", "1/2/1 2/3/1 | 1:1x8", 0, "1/2/1 2/3/1 | 1:1x8"},
		{"nobody is there, and nobody plans", "| 1:1x8", 0, "| 1:1x8"},
		{"of nothing", "", 1, ""},
	})
	for _, node := range notNodes {
		tells(t, "no node", gossip.Plan(at("1/1/1 2/1/1 3/2/1 | 1:1x8"), node), "1/1/1 2/1/1 3/2/1 | 1:1x8")
		tells(t, "no node, and no claimant", gossip.Plan(at("1/2/1 3/2/1 | 1:1x8"), node), "1/2/1 3/2/1 | 1:1x8")
	}
}

// P12.4

func TestMembers(t *testing.T) {
	r := at("6/1/1 1/1/1 2/2/5 3/3/2 5/2/0 7/3/9 8/1/1 4/4/1")
	for _, c := range []struct {
		name   string
		states []int
		want   []int
	}{
		{"all", nil, []int{1, 2, 3, 5, 6, 7}},
		{"all, of an empty list", []int{}, []int{1, 2, 3, 5, 6, 7}},
		{"Joined", []int{api.Joined}, []int{1, 6}},
		{"Leaving", []int{api.Leaving}, []int{2, 5}},
		{"Gone", []int{api.Gone}, []int{3, 7}},
		{"two states", []int{api.Gone, api.Joined}, []int{1, 3, 6, 7}},
		{"all states", []int{3, 2, 1}, []int{1, 2, 3, 5, 6, 7}},
		{"a state twice", []int{1, 1}, []int{1, 6}},
		{"a state that may not be", []int{4}, nil},
		{"state 0", []int{0}, nil},
		{"states that may not be", []int{-1, 0, 4, 257, math.MaxInt, math.MinInt}, nil},
		{"one that may be among these", []int{0, 2, 9}, []int{2, 5}},
	} {
		got := gossip.Members(r, c.states...)
		if !slices.Equal(got, c.want) {
			t.Errorf("%s: %v, want %v", c.name, got, c.want)
		}
	}
	is(t, "of nothing", len(gossip.Members(api.Ring{}))+len(gossip.Members(api.Ring{}, 0, 1, 2, 3)), 0)
}

func TestOwnersAndState(t *testing.T) {
	is(t, "Owners of nothing", gossip.Owners(api.Ring{}), api.Owners{})
	is(t, "Owners", gossip.Owners(at("| 1:1 7:0 0:5 8:1 -1:2 3:most 2:2 2:3")), api.Owners{1, 7, 0, 0, 0, 3, 2, 2})
	r := at("6/1/1 1/3/1 2/2/5 2/1/6 3/3/2 3/2/2 5/4/1 4/0/1 8/1/1 0/1/1 -1/1/1")
	for node, want := range map[int]int{1: 3, 2: 1, 3: 3, 4: 0, 5: 0, 6: 1, 7: 0} {
		is(t, "State", gossip.State(r, node), want)
		is(t, "State in nothing", gossip.State(api.Ring{}, node), 0)
	}
	for _, node := range notNodes {
		is(t, "State of no node", gossip.State(r, node), 0)
	}
}

func TestSame(t *testing.T) {
	whole := "1/1/1 2/2/2 | 1:1x4 2:2x4"
	for _, c := range []struct {
		name, a, b string
		want       bool
	}{
		{"the same", whole, whole, true},
		{"in another order", whole, "2/2/2 1/1/1 | 1:1x4 2:2x4", true},
		{"with an older member", whole, "1/1/1 2/1/2 2/2/2 2/3/1 | 1:1x4 2:2x4", true},
		{"with what may not be", whole, "8/1/1 1/1/1 2/2/2 3/4/1 | 1:1x4 2:2x4", true},
		{"nobody by another number", "| 0:3", "| 9:3", true},
		{"nothing, and nothing that counts", "", "0/1/1", true},
		{"another node", whole, "1/1/1 3/2/2 | 1:1x4 2:2x4", false},
		{"another state", whole, "1/1/1 2/3/2 | 1:1x4 2:2x4", false},
		{"another V", whole, "1/1/1 2/2/3 | 1:1x4 2:2x4", false},
		{"a member more", whole, "1/1/1 2/2/2 3/1/1 | 1:1x4 2:2x4", false},
		{"a member fewer", whole, "1/1/1 | 1:1x4 2:2x4", false},
		{"another owner", whole, "1/1/1 2/2/2 | 1:1x4 2:2x3 1:2", false},
		{"another V of an owner", whole, "1/1/1 2/2/2 | 1:1x4 2:2x3 2:3", false},
		{"another first owner", whole, "1/1/1 2/2/2 | 2:1 1:1x3 2:2x4", false},
		{"nobody, said more often", "", "| 0:1", false},
		{"a member of V 0", "", "1/1/0", false},
		{"nothing", whole, "", false},
	} {
		is(t, c.name, gossip.Same(at(c.a), at(c.b)), c.want)
		is(t, c.name+", the other way", gossip.Same(at(c.b), at(c.a)), c.want)
	}
}

// The whole, held against the chapter's words.
func TestDrawnCallsAreAsTheChapterSays(t *testing.T) {
	r := rand.New(rand.NewSource(21))
	for range 15000 {
		a, b, c := drawn(r), drawn(r), drawn(r)
		node := r.Intn(10) - 1
		states := []int{r.Intn(5), r.Intn(5), r.Intn(5)}[:r.Intn(4)]
		tells(t, "Norm", gossip.Norm(a), text(plainNorm(a)))
		tells(t, "Merge", gossip.Merge(a, b, c), text(plainMerge(a, b, c)))
		tells(t, "Join", gossip.Join(a, node), text(plainJoin(a, node)))
		tells(t, "Leave", gossip.Leave(a, node), text(plainLeave(a, node)))
		is(t, "Claimant", gossip.Claimant(a), plainClaimant(a))
		tells(t, "Plan", gossip.Plan(a, node), text(plainPlan(a, node)))
		tells(t, "Plan by the claimant", gossip.Plan(a, plainClaimant(a)), text(plainPlan(a, plainClaimant(a))))
		is(t, "Members", gossip.Members(a, states...), plainMembers(a, states...))
		is(t, "Owners", gossip.Owners(a), plainOwners(a))
		is(t, "State", gossip.State(a, node), plainState(a, node))
		is(t, "Same", gossip.Same(a, b), plainSame(a, b))
		is(t, "Same as its Norm", gossip.Same(a, plainNorm(a)), true)
		if gossip.Bytes(a) != plainBytes(a) {
			t.Errorf("Bytes of %s", text(a))
		}
		if t.Failed() {
			t.Fatalf("of %s; %s; %s; node %d, states %v", text(a), text(b), text(c), node, states)
		}
	}
}
