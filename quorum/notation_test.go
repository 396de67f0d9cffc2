package quorum_test

import (
	"fmt"
	"slices"
	"testing"

	"murmuration/api"
	"murmuration/cell"
	"murmuration/quorum"
)

func is(t *testing.T, what string, got, want any) {
	t.Helper()
	if g, w := fmt.Sprint(got), fmt.Sprint(want); g != w {
		t.Fatalf("%s: %.300s, want %.300s", what, g, w)
	}
}

// told are a call's answers in one list.
func told(answers ...any) []any { return answers }

// three are the chapter's targets: 4 stands in for 2.
var three = []api.Target{{Node: 1, For: 1}, {Node: 4, For: 2}, {Node: 3, For: 3}}

// primes are n targets, each one for itself.
func primes(n int) []api.Target {
	var l []api.Target
	for node := 1; node <= n; node++ {
		l = append(l, api.Target{Node: node, For: node})
	}
	return l
}

// counter is what tallies and reads have alike.
type counter interface {
	Yes(nodes ...int) bool
	No(nodes ...int) bool
	Verdict() int
	Open() []int
	Counts() (int, int, int)
}

// both makes a tally and a read of the same targets, as a read is a tally.
func both(targets []api.Target, need, prime int) map[string]counter {
	return map[string]counter{
		"tally": quorum.New(targets, need, prime),
		"read":  quorum.NewRead(targets, need, prime),
	}
}

// stands tells all that a tally says of itself.
func stands(t *testing.T, what string, c counter, verdict int, open []int, counts ...int) {
	t.Helper()
	is(t, what+": Verdict", c.Verdict(), verdict)
	is(t, what+": Open", c.Open(), open)
	is(t, what+": Counts", told(c.Counts()), counts)
}

// set is a cell in which some texts were inserted by an actor, one by one.
func set(actor uint64, texts ...string) api.Cell {
	return inserted(cell.New(api.KindSet), actor, texts...)
}

func inserted(c api.Cell, actor uint64, texts ...string) api.Cell {
	for i, s := range texts {
		next, e := cell.Update(c, api.Update{Op: api.OpInsert, S: s}, api.Dot{Actor: actor, N: uint64(i + 1)})
		if e != api.OK {
			panic(e)
		}
		c = next
	}
	return c
}

// object is a cell in which texts were put by an actor, none of which had seen another.
func object(actor uint64, texts ...string) api.Cell {
	c := cell.New(api.KindObject)
	for i, s := range texts {
		c, _ = cell.Update(c, api.Update{Op: api.OpPut, S: s}, api.Dot{Actor: actor, N: uint64(i + 1)})
	}
	return c
}

// tells asks a read for its cell and for who is to be repaired.
func tells(t *testing.T, what string, r *quorum.Read, want api.Cell, repairs ...int) {
	t.Helper()
	c, came := r.Cell()
	is(t, what+": Cell", told(c, came), told(want, true))
	is(t, what+": Repairs", r.Repairs(), repairs)
}

// tellsNone: no cell came, so that nobody is to be repaired.
func tellsNone(t *testing.T, what string, r *quorum.Read) {
	t.Helper()
	c, came := r.Cell()
	is(t, what+": Cell", told(c, came), told(api.Cell{}, false))
	is(t, what+": Repairs", r.Repairs(), []int{})
}

// orders calls with each order of these.
func orders(l []int, call func([]int)) {
	var from func(i int)
	from = func(i int) {
		if i == len(l) {
			call(slices.Clone(l))
			return
		}
		for j := i; j < len(l); j++ {
			l[i], l[j] = l[j], l[i]
			from(i + 1)
			l[i], l[j] = l[j], l[i]
		}
	}
	from(0)
}
