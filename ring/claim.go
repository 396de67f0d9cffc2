package ring

import (
	"slices"

	"murmuration/api"
)

// risen has each member once, by rising numbers, so that a node's place in it can be searched for.
func risen(members []int) []int {
	var nodes []int
	for _, member := range members {
		if somebody(member) {
			nodes = append(nodes, member)
		}
	}
	slices.Sort(nodes)
	return slices.Compact(nodes)
}

// tally tells how many partitions each of the nodes owns; what others own is in none of these numbers.
func tally(o api.Owners, nodes []int) []int {
	owned := make([]int, len(nodes))
	for _, owner := range o {
		if i, found := slices.BinarySearch(nodes, owner); found {
			owned[i]++
		}
	}
	return owned
}

// shares tells how many partitions each node may have. One more goes to those that own most, as they have the most to keep by it.
func shares(owned []int) []int {
	order := make([]int, len(owned))
	for i := range order {
		order[i] = i
	}
	slices.SortStableFunc(order, func(i, j int) int { return owned[j] - owned[i] })
	share := make([]int, len(owned))
	for place, i := range order {
		share[i] = api.Partitions / len(owned)
		if place < api.Partitions%len(owned) {
			share[i]++
		}
	}
	return share
}

// keep leaves partitions with their owners while these have room, and takes from it.
func keep(o api.Owners, nodes, room []int) api.Owners {
	var kept api.Owners
	for p, owner := range o {
		if i, found := slices.BinarySearch(nodes, owner); found && room[i] > 0 {
			kept[p] = owner
			room[i]--
		}
	}
	return kept
}

// fill gives away what nobody owns. There is room for just as many: all the shares together are all the partitions.
func fill(o api.Owners, nodes, room []int) api.Owners {
	next := 0
	for p, owner := range o {
		if somebody(owner) {
			continue
		}
		for room[next] == 0 {
			next++
		}
		o[p] = nodes[next]
		room[next]--
	}
	return o
}
