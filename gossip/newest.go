package gossip

import (
	"cmp"
	"maps"
	"math"
	"slices"

	"murmuration/api"
)

// isNode tells whether there may be a node of that number.
func isNode(node int) bool { return node >= 1 && node <= api.MaxNodes }

// oneMore stays at the greatest number there is: if it went round to 0, what is newest would be the oldest.
func oneMore(v uint64) uint64 {
	if v == math.MaxUint64 {
		return v
	}
	return v + 1
}

// newer makes the order by age of what is said of one thing: by V, and of the same V by a number that is another one for each kind of thing.
func newer[T any](age func(T) (v uint64, rank int)) func(a, b T) int {
	return func(a, b T) int {
		va, ranka := age(a)
		vb, rankb := age(b)
		return cmp.Or(cmp.Compare(va, vb), cmp.Compare(ranka, rankb))
	}
}

func newerMember() func(a, b api.Member) int {
	return newer(func(m api.Member) (uint64, int) { return m.V, m.State })
}

func newerOwner() func(a, b api.Owner) int {
	return newer(func(o api.Owner) (uint64, int) { return o.V, o.Node })
}

// known has of each node the newest member that was heard of.
type known map[int]api.Member

// hear leaves out what may not be, so that it can't stand in the way of an older member that may. What is not there is older than any: its State is 0.
func (k known) hear(l ...api.Member) {
	order := newerMember()
	for _, m := range l {
		if !isNode(m.Node) || m.State < api.Joined || m.State > api.Gone {
			continue
		}
		if order(m, k[m.Node]) > 0 {
			k[m.Node] = m
		}
	}
}

// rising is by nodes, as a map has no order of its own.
func (k known) rising() []api.Member {
	return slices.SortedFunc(maps.Values(k), func(a, b api.Member) int { return cmp.Compare(a.Node, b.Node) })
}

// turned has these nodes in another state. It sets them rather than merging, as at the greatest V the other state need not be the newer one.
func turned(r api.Ring, state int, nodes ...int) api.Ring {
	r = Norm(r)
	all := known{}
	all.hear(r.Members...)
	for _, node := range nodes {
		all[node] = api.Member{Node: node, State: state, V: oneMore(all[node].V)}
	}
	r.Members = all.rising()
	return r
}

// newestOwners takes an owner that may not be as nobody ahead of holding it against the other one: its number must not count as greater.
func newestOwners(a, b [api.Partitions]api.Owner) [api.Partitions]api.Owner {
	order := newerOwner()
	for p, owner := range b {
		if !isNode(owner.Node) {
			owner.Node = 0
		}
		if order(owner, a[p]) > 0 {
			a[p] = owner
		}
	}
	return a
}
