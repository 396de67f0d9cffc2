package net_test

import (
	"math/rand"
	"strconv"
	"testing"

	"murmuration/api"
	"murmuration/net"
)

var few = []int{-1, 0, 1, 2, 3, 7}

func drawnNode(r *rand.Rand) int { return few[r.Intn(len(few))] }

func drawnNodes(r *rand.Rand) []int {
	var nodes []int
	for range r.Intn(4) {
		nodes = append(nodes, drawnNode(r))
	}
	return nodes
}

func drawnBodies(r *rand.Rand) []string {
	var l []string
	for range r.Intn(4) {
		l = append(l, oddBodies[r.Intn(5)])
	}
	return l
}

func drawnPick(r *rand.Rand) int { return r.Intn(60) - 30 }

// Drawn calls are answered as the chapter's words say of all that came before.
func TestDrawnCalls(t *testing.T) {
	for seed := range int64(200) {
		r := rand.New(rand.NewSource(seed))
		n, p := net.New(), &plain{}
		for range 120 {
			drawnCall(t, r, n, p)
			p.holds(t, "seed "+strconv.FormatInt(seed, 10), n, few...)
		}
		p.drained(t, "seed "+strconv.FormatInt(seed, 10), n)
	}
}

func drawnCall(t *testing.T, r *rand.Rand, n *net.Net, p *plain) {
	t.Helper()
	a, b, pick, nodes := drawnNode(r), drawnNode(r), drawnPick(r), drawnNodes(r)
	switch r.Intn(12) {
	case 0, 1, 2, 3:
		l := drawnBodies(r)
		is(t, "Send", n.Send(a, b, l...), p.send(a, b, l...))
	case 4, 5:
		is(t, "Take", answer(n.Take(pick)), p.take(pick))
	case 6:
		is(t, "Drop", n.Drop(pick), p.drop(pick))
	case 7:
		is(t, "Double", n.Double(pick), p.double(pick))
	case 8, 9:
		n.Cut(a, b)
		p.cut(a, b)
	case 10:
		is(t, "Heal", n.Heal(nodes...), p.heal(nodes...))
	case 11:
		if r.Intn(4) == 0 {
			is(t, "Lose", n.Lose(a), p.lose(a))
		}
		is(t, "Waits", n.Waits(nodes...), p.waits(nodes...))
	}
}

// The same, of nets that are nearly full.
func TestDrawnCallsOfFullNets(t *testing.T) {
	for seed := range int64(3) {
		r := rand.New(rand.NewSource(seed))
		n, p := net.New(), &plain{}
		first := texts(4094)
		is(t, "Send", n.Send(1, 2, first...), p.send(1, 2, first...))
		for range 60 {
			drawnCall(t, r, n, p)
			is(t, "Waits", n.Waits(), p.waits())
		}
		p.heal()
		n.Heal()
		is(t, "all under way", n.Waits(), p.waits())
	}
}

// P14.4

// What is taken was sent or doubled as it was told, once, between nodes that are not cut off; and all of it can be taken in the end.
func TestTakenOnceAsItWasSent(t *testing.T) {
	for seed := range int64(200) {
		r := rand.New(rand.NewSource(seed))
		n, due, number := net.New(), map[api.Message]int{}, 0
		for i := range 200 {
			a, b := drawnNode(r), drawnNode(r)
			switch r.Intn(6) {
			case 0, 1:
				number++
				due[api.Message{N: number, From: a, To: b, Body: strconv.Itoa(i)}] = 1
				is(t, "Send", n.Send(a, b, strconv.Itoa(i)), 1)
			case 2:
				if n.Double(drawnPick(r)) {
					number++
					doubled(t, n, due, number)
				}
			case 3:
				n.Cut(a, b)
			case 4:
				n.Heal(a)
			case 5:
				takeOne(t, n, due, drawnPick(r))
			}
		}
		n.Heal()
		for len(due) > 0 {
			is(t, "each can be taken", takeOne(t, n, due, drawnPick(r)), true)
		}
		is(t, "none beside", takeOne(t, n, due, 0), false)
	}
}

// doubled adds the message of that number, if it may be seen; if it is cut off, one of those that are has it.
func doubled(t *testing.T, n *net.Net, due map[api.Message]int, number int) {
	t.Helper()
	waits := n.Waits()
	if len(waits) > 0 && waits[len(waits)-1].N == number {
		m := waits[len(waits)-1]
		is(t, "doubled as another one", like(due, m), true)
		due[m] = 1
		return
	}
	// Nothing tells which one it was: it is found out by dropping it.
	is(t, "Drop of the one that was doubled", n.Drop(len(due)), true)
}

// like tells whether a message is one of these but for its number.
func like(due map[api.Message]int, m api.Message) bool {
	for one := range due {
		if one.From == m.From && one.To == m.To && one.Body == m.Body {
			return true
		}
	}
	return false
}

func takeOne(t *testing.T, n *net.Net, due map[api.Message]int, pick int) bool {
	t.Helper()
	m, there := n.Take(pick)
	if !there {
		is(t, "what is taken of none", m, api.Message{})
		return false
	}
	is(t, "taken is due: "+shown(m), due[m], 1)
	is(t, "taken is not cut off", n.Joined(m.From, m.To), true)
	delete(due, m)
	return true
}

// A message that was cut off on its way, and waited through cuts and heals of others, comes as it was.
func TestCutOffOnItsWay(t *testing.T) {
	n := net.New()
	n.Cut(1, 2)
	n.Send(1, 2, "a")
	n.Send(3, 2, "b")
	n.Cut(2, 3)
	n.Heal(1)
	is(t, "Waits", bodies(n.Waits()), "a ")
	n.Cut(2, 1)
	n.Heal(3)
	is(t, "Waits", bodies(n.Waits()), "b ")
	is(t, "Take", answer(n.Take(8)), taken{api.Message{N: 2, From: 3, To: 2, Body: "b"}, true})
	n.Heal()
	is(t, "Take", answer(n.Take(8)), taken{api.Message{N: 1, From: 1, To: 2, Body: "a"}, true})
}

// All of a full net can be taken, whatever the picks.
func TestAllOfAFullNet(t *testing.T) {
	n, seen := full(), map[int]int{}
	for i := range api.MaxWaits {
		m, there := n.Take(i * 7919)
		is(t, "Take", there, true)
		is(t, "its body", m.Body, strconv.Itoa(m.N-1))
		seen[m.N]++
	}
	is(t, "each once", len(seen), api.MaxWaits)
	is(t, "Take of none", answer(n.Take(0)), taken{})
}

// The same calls have the same answers.
func TestTheSameCallsHaveTheSameAnswers(t *testing.T) {
	run := func() string {
		r := rand.New(rand.NewSource(14))
		n, all := net.New(), ""
		for range 200 {
			n.Send(drawnNode(r), drawnNode(r), drawnBodies(r)...)
			n.Cut(drawnNode(r), drawnNode(r))
			n.Cut(drawnNode(r), drawnNode(r))
			all += shown(answer(n.Take(drawnPick(r)))) + strconv.Itoa(n.Heal(drawnNode(r))) + shown(n.Waits(drawnNodes(r)...))
		}
		return all
	}
	first := run()
	for range 10 {
		is(t, "what was told", run(), first)
	}
}
