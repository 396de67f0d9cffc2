package ring

import (
	"slices"

	"murmuration/api"
)

// somebody tells a node from nobody, for whom any number that is not above 0 may stand.
func somebody(node int) bool { return node > 0 }

func walk(o api.Owners, p int) []int {
	start := max(p, 0) % api.Partitions
	var nodes []int
	for i := range o {
		owner := o[(start+i)%api.Partitions]
		if somebody(owner) && !slices.Contains(nodes, owner) {
			nodes = append(nodes, owner)
		}
	}
	return nodes
}

// split parts the first n nodes of a walk from those behind them.
func split(nodes []int, n int) (first, behind []int) {
	n = min(max(n, 0), len(nodes))
	return nodes[:n], nodes[n:]
}

func among(nodes, up []int) []int {
	var found []int
	for _, node := range nodes {
		if slices.Contains(up, node) {
			found = append(found, node)
		}
	}
	return found
}
