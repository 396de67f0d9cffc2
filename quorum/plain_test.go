package quorum_test

import (
	"fmt"
	"math/rand"
	"slices"
	"testing"

	"murmuration/api"
	"murmuration/cell"
	"murmuration/quorum"
)

// came is an answer of a target: what it said, and its cell, if it had one.
type came struct {
	yes  bool
	cell *api.Cell
}

// plain is a read by the chapter's words: what each target said, gone through whenever it is asked.
type plain struct {
	targets     []api.Target
	need, prime int
	said        map[int]came
}

func newPlain(targets []api.Target, need, prime int) *plain {
	p := &plain{need: max(need, 0), prime: max(prime, 0), said: map[int]came{}}
	for _, target := range targets {
		if !slices.ContainsFunc(p.targets, func(had api.Target) bool { return had.Node == target.Node }) {
			p.targets = append(p.targets, target)
		}
	}
	return p
}

func (p *plain) say(node int, c came) bool {
	_, said := p.said[node]
	asked := slices.ContainsFunc(p.targets, func(target api.Target) bool { return target.Node == node })
	if asked && !said {
		p.said[node] = c
	}
	return asked && !said
}

func (p *plain) all(c came, nodes ...int) bool {
	heard := false
	for _, node := range nodes {
		heard = p.say(node, c) || heard
	}
	return heard
}

func (p *plain) open() []int {
	nodes := []int{}
	for _, target := range p.targets {
		if _, said := p.said[target.Node]; !said {
			nodes = append(nodes, target.Node)
		}
	}
	return nodes
}

func (p *plain) counts() []any {
	yes, prime, no := 0, 0, 0
	for _, target := range p.targets {
		c, said := p.said[target.Node]
		switch {
		case said && c.yes && target.Node == target.For:
			prime++
			fallthrough
		case said && c.yes:
			yes++
		case said:
			no++
		}
	}
	return told(yes, prime, no)
}

func (p *plain) enough() bool {
	counts := p.counts()
	return counts[0].(int) >= p.need && counts[1].(int) >= p.prime
}

// verdict tries what would be, if all open ones said yes.
func (p *plain) verdict() int {
	if p.enough() {
		return 1
	}
	open := p.open()
	for _, node := range open {
		p.said[node] = came{yes: true}
	}
	could := p.enough()
	for _, node := range open {
		delete(p.said, node)
	}
	if could {
		return 0
	}
	return 2
}

func (p *plain) cell() (api.Cell, bool) {
	var cells []api.Cell
	for _, target := range p.targets {
		if c := p.said[target.Node].cell; c != nil {
			cells = append(cells, *c)
		}
	}
	if len(cells) == 0 {
		return api.Cell{}, false
	}
	all := cell.Join(cells[0], cells[0])
	for _, c := range cells[1:] {
		all = cell.Join(all, c)
	}
	return all, true
}

func (p *plain) repairs() []int {
	all, some := p.cell()
	nodes := []int{}
	for _, target := range p.targets {
		c := p.said[target.Node]
		if some && c.yes && (c.cell == nil || !cell.Same(*c.cell, all)) {
			nodes = append(nodes, target.Node)
		}
	}
	return nodes
}

func (p *plain) holds(t *testing.T, what string, c counter) {
	t.Helper()
	is(t, what+": Verdict", c.Verdict(), p.verdict())
	is(t, what+": Open", c.Open(), p.open())
	is(t, what+": Counts", told(c.Counts()), p.counts())
}

func (p *plain) reads(t *testing.T, what string, r *quorum.Read) {
	t.Helper()
	p.holds(t, what, r)
	is(t, what+": Cell", told(r.Cell()), told(p.cell()))
	is(t, what+": Repairs", r.Repairs(), p.repairs())
}

func drawnTargets(r *rand.Rand) []api.Target {
	var l []api.Target
	for range r.Intn(8) {
		target := api.Target{Node: r.Intn(7), For: r.Intn(7)}
		if r.Intn(2) == 0 {
			target.For = target.Node
		}
		l = append(l, target)
	}
	return l
}

func drawnNodes(r *rand.Rand) []int {
	var l []int
	for range r.Intn(4) {
		l = append(l, r.Intn(9)-1)
	}
	return l
}

// drawnCell is one of some that lie side by side, or of which one has seen the other; of several kinds, some of them wrong.
func drawnCell(r *rand.Rand) api.Cell {
	texts := []string{"a", "b", "c"}[:r.Intn(4)]
	actor := uint64(1 + r.Intn(3))
	switch r.Intn(8) {
	case 0:
		return object(actor, texts...)
	case 1:
		return api.Cell{Kind: r.Intn(9) - 1}
	case 2:
		return api.Cell{Kind: 4, Clock: api.Clock{{Actor: actor, N: uint64(r.Intn(3))}}}
	case 3:
		return api.Cell{Kind: 4, Store: api.Store{Entries: []api.Entry{{Dot: api.Dot{Actor: actor, N: uint64(r.Intn(3))}}}}}
	case 4:
		return cell.Join(set(actor, texts...), set(actor+1, "x", "y"))
	}
	return set(actor, texts...)
}

// Drawn calls are answered as the chapter's words say of all that came before.
func TestDrawnCalls(t *testing.T) {
	for seed := range int64(3000) {
		r := rand.New(rand.NewSource(seed))
		targets, need, prime := drawnTargets(r), r.Intn(6)-1, r.Intn(5)-1
		what := fmt.Sprintf("seed %d: %v, %d, %d", seed, targets, need, prime)
		tally, tallied := quorum.New(targets, need, prime), newPlain(targets, need, prime)
		read, pread := quorum.NewRead(targets, need, prime), newPlain(targets, need, prime)
		tallied.holds(t, what, tally)
		pread.reads(t, what, read)
		for range 10 {
			nodes, node := drawnNodes(r), r.Intn(9)-1
			switch r.Intn(4) {
			case 0:
				is(t, what+": Yes", told(tally.Yes(nodes...), read.Yes(nodes...)), told(tallied.all(came{yes: true}, nodes...), pread.all(came{yes: true}, nodes...)))
			case 1:
				is(t, what+": No", told(tally.No(nodes...), read.No(nodes...)), told(tallied.all(came{}, nodes...), pread.all(came{}, nodes...)))
			case 2:
				c := drawnCell(r)
				is(t, what+": Got", read.Got(node, c), pread.say(node, came{true, &c}))
			case 3:
				is(t, what+": None", read.None(node), pread.say(node, came{yes: true}))
			}
			tallied.holds(t, what, tally)
			pread.reads(t, what, read)
		}
	}
}
