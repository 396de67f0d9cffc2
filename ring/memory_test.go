package ring_test

import (
	"slices"
	"testing"

	"murmuration/api"
	"murmuration/ring"
)

// scribble writes over all that a list could reach.
func scribble[T any](l []T, with T) {
	l = l[:cap(l)]
	for i := range l {
		l[i] = with
	}
}

// roomy is a list with room behind it, in which a call would leave its traces.
func roomy(nodes ...int) []int {
	return append(make([]int, 0, 2*len(nodes)), nodes...)
}

func TestWhatIsToldIsTheOwnersOwn(t *testing.T) {
	o := four
	for range 2 {
		scribble(ring.Primaries(o, 1, 2), 9)
		scribble(ring.Primaries(o, 1, 0), 9)
		scribble(ring.Sloppy(o, 0, 3, 1, 3, 4), api.Target{Node: 9, For: 9})
		scribble(ring.Owned(o, 1), 9)
		scribble(ring.Transfers(o, three), api.Transfer{Partition: 9})
		is(t, "the ring", o, four)
		is(t, "Primaries", ring.Primaries(o, 1, 2), []int{2, 3})
		is(t, "Sloppy", ring.Sloppy(o, 0, 3, 1, 3, 4), []api.Target{{Node: 1, For: 1}, {Node: 4, For: 2}, {Node: 3, For: 3}})
		is(t, "Owned", ring.Owned(o, 1), []int{0, 4})
		is(t, "Transfers", ring.Transfers(o, three), plainTransfers(four, three))
	}
}

func TestWhatIsHandedInStays(t *testing.T) {
	members := roomy(4, 2, 2, 0, 1, -3, 3)
	was := slices.Clone(members[:cap(members)])
	claimed := ring.Claim(three, members...)
	ring.Balanced(claimed, members...)
	asked := ring.Sloppy(four, 2, 2, members...)
	is(t, "the members", members[:cap(members)], was)

	wasAsked := slices.Clone(asked)
	scribble(members, 7)
	is(t, "what was claimed", claimed, api.Owners{1, 2, 3, 1, 2, 3, 4, 4})
	is(t, "who was asked", asked, wasAsked)
	is(t, "the rings", []api.Owners{three, four}, []api.Owners{{1, 2, 3, 1, 2, 3, 1, 2}, {1, 2, 3, 4, 1, 2, 3, 4}})
}

func TestNoListHandedOverIsAsAnEmptyOne(t *testing.T) {
	var none []int
	for _, list := range [][]int{none, {}} {
		is(t, "Claim", ring.Claim(three, list...), api.Owners{})
		is(t, "Balanced", ring.Balanced(api.Owners{}, list...), true)
		is(t, "Sloppy", len(ring.Sloppy(three, 0, 3, list...)), 0)
	}
}

func TestZeroRingTellsNothing(t *testing.T) {
	var o api.Owners
	is(t, "Primaries", len(ring.Primaries(o, 0, 3)), 0)
	is(t, "Sloppy", len(ring.Sloppy(o, 0, 3, 1, 2, 3)), 0)
	is(t, "Owned", len(ring.Owned(o, 1)), 0)
	is(t, "Transfers", len(ring.Transfers(o, o)), 0)
	is(t, "Balanced", ring.Balanced(o, 1), false)
}
