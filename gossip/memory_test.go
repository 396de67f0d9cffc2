package gossip_test

import (
	"slices"
	"testing"

	"murmuration/api"
	"murmuration/gossip"
)

// scribble writes over all that a list could reach.
func scribble[T any](l []T, with T) {
	l = l[:cap(l)]
	for i := range l {
		l[i] = with
	}
}

// spoil writes over all members of a ring.
func spoil(r api.Ring) { scribble(r.Members, api.Member{Node: 5, State: 2, V: 99}) }

// roomy is a ring whose list has room behind it, in which a call would leave its traces.
func roomy(s string) api.Ring {
	r := at(s)
	r.Members = append(make([]api.Member, 0, 2*len(r.Members)+3), r.Members...)
	return r
}

// calls are all that tell a ring of another one.
func calls() map[string]func(r api.Ring) api.Ring {
	told := map[string]func(r api.Ring) api.Ring{
		"Norm":            gossip.Norm,
		"Merge":           func(r api.Ring) api.Ring { return gossip.Merge(r) },
		"Merge of two":    func(r api.Ring) api.Ring { return gossip.Merge(r, at("3/1/0")) },
		"Merge with none": func(r api.Ring) api.Ring { return gossip.Merge(api.Ring{}, r, api.Ring{}) },
		"New":             func(api.Ring) api.Ring { return gossip.New(3) },
		"Read": func(r api.Ring) api.Ring {
			read, _ := gossip.Read(gossip.Bytes(r))
			return read
		},
	}
	for node, name := range []string{"0", "1", "2", "3", "4"} {
		told["Join "+name] = func(r api.Ring) api.Ring { return gossip.Join(r, node) }
		told["Leave "+name] = func(r api.Ring) api.Ring { return gossip.Leave(r, node) }
		told["Plan "+name] = func(r api.Ring) api.Ring { return gossip.Plan(r, node) }
	}
	return told
}

var some = []string{"", "1/1/1 2/2/1 | 1:1x8", "2/1/1 1/2/1 4/3/1 | 1:1x8", "3/1/1 3/2/1 9/1/1 1/1/1 | 9:1x8"}

func TestRingsThatAreToldAreTheOwnersOwn(t *testing.T) {
	for name, call := range calls() {
		for _, s := range some {
			r := roomy(s)
			was, room := text(r), slices.Clone(r.Members[:cap(r.Members)])
			got := call(r)
			want := text(got)
			is(t, name+": what was handed in", text(r), was)
			is(t, name+": the room behind it", r.Members[:cap(r.Members)], room)
			again := call(r)
			spoil(got)
			is(t, name+": what was handed in, once the answer is changed", text(r), was)
			is(t, name+": another answer", text(again), want)
			spoil(r)
			is(t, name+": the answer, once what was handed in is changed", text(again), want)
		}
	}
}

func TestListsThatAreHandedInStay(t *testing.T) {
	rings := []api.Ring{roomy("2/1/1 1/1/1"), roomy("3/1/1 | 3:3x8"), {}}[:2]
	merged := gossip.Merge(rings...)
	is(t, "the rings", text(rings[0])+", "+text(rings[1])+", "+text(rings[:3][2]), "2/1/1 1/1/1 | 0:0x8, 3/1/1 | 3:3x8, | 0:0x8")
	states := append(make([]int, 0, 6), 3, 1)
	nodes := gossip.Members(merged, states...)
	is(t, "the states", states[:6], []int{3, 1, 0, 0, 0, 0})
	scribble(states, 2)
	rings[0] = at("7/1/1")
	is(t, "the nodes", nodes, []int{1, 2, 3})
	tells(t, "what was merged", merged, "1/1/1 2/1/1 3/1/1 | 3:3x8")
}

func TestNodesThatAreToldAreTheOwnersOwn(t *testing.T) {
	r := roomy("2/1/1 1/1/1 3/2/1")
	was := text(r)
	for range 2 {
		nodes, joined := gossip.Members(r), gossip.Members(r, api.Joined)
		is(t, "all", nodes, []int{1, 2, 3})
		is(t, "those that are Joined", joined, []int{1, 2})
		scribble(nodes, 9)
		is(t, "those that are Joined, once all is changed", joined, []int{1, 2})
		scribble(joined, 9)
		is(t, "the ring", text(r), was)
	}
}

func TestWhatTellsLeavesTheRingAsItIs(t *testing.T) {
	for _, s := range some {
		a, b := roomy(s), roomy(s)
		room := slices.Clone(a.Members[:cap(a.Members)])
		gossip.Claimant(a)
		gossip.Owners(a)
		gossip.State(a, 1)
		gossip.Bytes(a)
		is(t, "Same", gossip.Same(a, b), true)
		is(t, "the ring", text(a), text(at(s)))
		is(t, "the room behind it", a.Members[:cap(a.Members)], room)
		is(t, "the other one", b.Members[:cap(b.Members)], room)
	}
}

func TestTheSameCallsHaveTheSameAnswers(t *testing.T) {
	for name, call := range calls() {
		for _, s := range some {
			want := text(call(at(s)))
			for range 50 {
				is(t, name, text(call(at(s))), want)
			}
		}
	}
}
