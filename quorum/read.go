package quorum

import (
	"murmuration/api"
	"murmuration/cell"
)

// Read is a tally with the cells that came.
type Read struct {
	Tally
	cells map[int]api.Cell // by the nodes from which they came, as their Norm
}

// NewRead is one in which all are open; Got and None are what some say.
func NewRead(targets []api.Target, need, prime int) *Read {
	return &Read{Tally: *New(targets, need, prime)}
}

func (r *Read) Got(node int, c api.Cell) bool {
	if !r.Yes(node) {
		return false
	}
	if r.cells == nil {
		r.cells = map[int]api.Cell{}
	}
	// A cell's own join with itself is its Norm, in memory that is not its owner's.
	r.cells[node] = cell.Join(c, c)
	return true
}

func (r *Read) None(node int) bool { return r.Yes(node) }

// Cell is what all have together; Repairs are those that have another one.
func (r *Read) Cell() (api.Cell, bool) {
	if r == nil {
		return api.Cell{}, false
	}
	var all api.Cell
	came := false
	for _, node := range r.said(yes) {
		c, there := r.cells[node]
		if !there {
			continue
		}
		if !came {
			all, came = c, true
		}
		// The first one, too, is joined, with itself: what is told is new memory.
		all = cell.Join(all, c)
	}
	return all, came
}

func (r *Read) Repairs() []int {
	all, came := r.Cell()
	if !came {
		return nil
	}
	var nodes []int
	for _, node := range r.said(yes) {
		if c, there := r.cells[node]; !there || !cell.Same(c, all) {
			nodes = append(nodes, node)
		}
	}
	return nodes
}

// tally is nil for a nil read. The calls below stand ahead of the promoted ones, as those panic at a nil read, where the tally's own guards aren't reached.
func (r *Read) tally() *Tally {
	if r == nil {
		return nil
	}
	return &r.Tally
}

func (r *Read) Yes(nodes ...int) bool   { return r.tally().Yes(nodes...) }
func (r *Read) No(nodes ...int) bool    { return r.tally().No(nodes...) }
func (r *Read) Verdict() int            { return r.tally().Verdict() }
func (r *Read) Open() []int             { return r.tally().Open() }
func (r *Read) Counts() (int, int, int) { return r.tally().Counts() }
