package net

// pair is two nodes that are cut off from one another, the lesser one first: so either order is the same key.
type pair [2]int

func pairOf(a, b int) pair { return pair{min(a, b), max(a, b)} }

// Cut cuts two off; Heal heals; Joined tells whether they are not.
func (n *Net) Cut(a, b int) {
	if n == nil || a == b {
		return
	}
	if n.cuts == nil {
		n.cuts = map[pair]struct{}{}
	}
	n.cuts[pairOf(a, b)] = struct{}{}
}

func (n *Net) Heal(nodes ...int) int {
	if n == nil {
		return 0
	}
	asked, had := groupOf(nodes), len(n.cuts)
	for p := range n.cuts {
		if asked.has(p[0]) || asked.has(p[1]) {
			delete(n.cuts, p)
		}
	}
	return had - len(n.cuts)
}

func (n *Net) Joined(a, b int) bool {
	if n == nil {
		return true
	}
	_, cut := n.cuts[pairOf(a, b)]
	return !cut
}

// group is the nodes that a call was given; without any it stands for all nodes.
type group map[int]struct{}

func groupOf(nodes []int) group {
	g := group{}
	for _, node := range nodes {
		g[node] = struct{}{}
	}
	return g
}

func (g group) has(node int) bool {
	_, there := g[node]
	return there || len(g) == 0
}
