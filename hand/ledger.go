package hand

import (
	"slices"
	"strings"

	"murmuration/api"
)

// parcel is one that is not done with: what of it was not touched since it was packed, by its keys.
type parcel struct {
	number int
	open   map[string][32]byte
}

// Ledger is what a node has packed, and not touched since.
type Ledger struct {
	last map[int]parcel // by the partition
}

// NewLedger is one without parcels; Touch notes that keys were touched; Open is what is due to go.
func NewLedger() *Ledger { return &Ledger{} }

func (g *Ledger) Touch(partition int, keys ...string) {
	if g == nil {
		return
	}
	open := g.last[partition].open
	for _, key := range keys {
		delete(open, key)
	}
}

func (g *Ledger) Open(partition int) []api.Sum {
	if g == nil {
		return nil
	}
	var sums []api.Sum
	for key, sum := range g.last[partition].open {
		sums = append(sums, api.Sum{Key: key, Sum: sum})
	}
	slices.SortFunc(sums, func(a, b api.Sum) int { return strings.Compare(a.Key, b.Key) })
	return sums
}

// note has a parcel instead of an older one: what is told back of that is passed over from now on.
func (g *Ledger) note(partition, number int, sums ...api.Sum) {
	if g == nil {
		return
	}
	if g.last == nil {
		g.last = map[int]parcel{}
	}
	open := map[string][32]byte{}
	for _, s := range sums {
		open[s.Key] = s.Sum
	}
	g.last[partition] = parcel{number, open}
}

// settle is done with the last parcel, if that is what p goes back to. Then due tells, of each key once, whether it may go with that sum.
func (g *Ledger) settle(p api.Parcel) (due func(api.Sum) bool, answered bool) {
	if g == nil || !p.Back {
		return nil, false
	}
	last, there := g.last[p.Partition]
	if !there || last.number != p.Number {
		return nil, false
	}
	delete(g.last, p.Partition)
	return func(s api.Sum) bool {
		sum, open := last.open[s.Key]
		if !open || sum != s.Sum {
			return false
		}
		delete(last.open, s.Key)
		return true
	}, true
}
