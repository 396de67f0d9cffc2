package ring_test

import (
	"math/rand"

	"murmuration/api"
)

// What follows is the chapter's words once more, as plainly as they can be said, to hold the package against.

func has(nodes []int, node int) bool {
	for _, n := range nodes {
		if n == node {
			return true
		}
	}
	return false
}

func plainWalk(o api.Owners, p int) []int {
	if p < 0 {
		p = 0
	}
	p %= 8
	var nodes []int
	for _, owner := range append(append([]int{}, o[p:]...), o[:p]...) {
		if owner > 0 && !has(nodes, owner) {
			nodes = append(nodes, owner)
		}
	}
	return nodes
}

func plainPrimaries(o api.Owners, p, n int) []int {
	var primaries []int
	for _, node := range plainWalk(o, p) {
		if len(primaries) < n {
			primaries = append(primaries, node)
		}
	}
	return primaries
}

func plainSloppy(o api.Owners, p, n int, up []int) []api.Target {
	primaries := plainPrimaries(o, p, n)
	var targets []api.Target
	var stand []int
	for _, primary := range primaries {
		if has(up, primary) {
			targets = append(targets, api.Target{Node: primary, For: primary})
			continue
		}
		for _, node := range plainWalk(o, p) {
			if !has(primaries, node) && has(up, node) && !has(stand, node) {
				stand = append(stand, node)
				targets = append(targets, api.Target{Node: node, For: primary})
				break
			}
		}
	}
	return targets
}

// plainMembers goes from the least to the greatest, one by one.
func plainMembers(members []int) []int {
	var nodes []int
	last := 0
	for {
		least := 0
		for _, m := range members {
			if m > last && (least == 0 || m < least) {
				least = m
			}
		}
		if least == 0 {
			return nodes
		}
		nodes = append(nodes, least)
		last = least
	}
}

func owns(o api.Owners, node int) int {
	n := 0
	for _, owner := range o {
		if owner == node {
			n++
		}
	}
	return n
}

// plainMay is how many partitions each member may have.
func plainMay(o api.Owners, nodes []int) map[int]int {
	may := map[int]int{}
	for _, node := range nodes {
		may[node] = 8 / len(nodes)
	}
	more := 8 % len(nodes)
	for n := 8; n >= 0; n-- {
		for _, node := range nodes {
			if owns(o, node) == n && more > 0 {
				may[node]++
				more--
			}
		}
	}
	return may
}

func plainClaim(o api.Owners, members []int) api.Owners {
	nodes := plainMembers(members)
	var claimed api.Owners
	if len(nodes) == 0 {
		return claimed
	}
	may := plainMay(o, nodes)
	for p := range 8 {
		if has(nodes, o[p]) && owns(claimed, o[p]) < may[o[p]] {
			claimed[p] = o[p]
		}
	}
	for p := range 8 {
		for _, node := range nodes {
			if claimed[p] == 0 && owns(claimed, node) < may[node] {
				claimed[p] = node
			}
		}
	}
	return claimed
}

func plainBalanced(o api.Owners, members []int) bool {
	nodes := plainMembers(members)
	for _, owner := range o {
		if len(nodes) == 0 && owner > 0 || len(nodes) > 0 && !has(nodes, owner) {
			return false
		}
	}
	for _, a := range nodes {
		for _, b := range nodes {
			if owns(o, a)-owns(o, b) > 1 {
				return false
			}
		}
	}
	return true
}

func plainTransfers(a, b api.Owners) []api.Transfer {
	var moved []api.Transfer
	for p := range 8 {
		if a[p] > 0 && b[p] > 0 && a[p] != b[p] {
			moved = append(moved, api.Transfer{Partition: p, From: a[p], To: b[p]})
		}
	}
	return moved
}

func plainOwned(o api.Owners, node int) []int {
	var owned []int
	for p := range 8 {
		if node > 0 && o[p] == node {
			owned = append(owned, p)
		}
	}
	return owned
}

// drawnOwners are numbers from -1 to most.
func drawnOwners(r *rand.Rand, most int) api.Owners {
	var o api.Owners
	for p := range o {
		o[p] = r.Intn(most+2) - 1
	}
	return o
}

// drawnNodes may be none, may be there twice, and may be nobody.
func drawnNodes(r *rand.Rand, most int) []int {
	nodes := make([]int, r.Intn(most+3))
	for i := range nodes {
		nodes[i] = r.Intn(most+2) - 1
	}
	return nodes
}

// all calls f with each ring of numbers from 0 to most.
func all(most int, f func(o api.Owners)) {
	var o api.Owners
	for {
		f(o)
		p := 0
		for p < 8 && o[p] == most {
			o[p] = 0
			p++
		}
		if p == 8 {
			return
		}
		o[p]++
	}
}
