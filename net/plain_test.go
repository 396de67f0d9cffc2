package net_test

import (
	"fmt"
	"slices"
	"strconv"
	"testing"

	"murmuration/api"
	"murmuration/net"
)

func is(t *testing.T, what string, got, want any) {
	t.Helper()
	if g, w := shown(got), shown(want); g != w {
		t.Fatalf("%s: %s, want %s", what, g, w)
	}
}

// shown has texts in quotes, so that none can be taken for several, or for nothing.
func shown(v any) string {
	switch x := v.(type) {
	case []api.Message:
		s := make([]byte, 0, 32*len(x))
		for _, m := range x {
			s = fmt.Appendf(s, "{%d %d>%d %q}", m.N, m.From, m.To, m.Body)
		}
		return string(s)
	case api.Message:
		return shown([]api.Message{x})
	case taken:
		return shown(x.m) + " " + strconv.FormatBool(x.there)
	}
	return fmt.Sprint(v)
}

// taken is a message, and whether there is one.
type taken struct {
	m     api.Message
	there bool
}

func answer(m api.Message, there bool) taken { return taken{m, there} }

// bodies are of all that is told the bodies alone, with a blank behind each.
func bodies(l []api.Message) string {
	s := ""
	for _, m := range l {
		s += m.Body + " "
	}
	return s
}

// texts are the numbers from 0 to n - 1 as texts.
func texts(n int) []string {
	var l []string
	for i := range n {
		l = append(l, strconv.Itoa(i))
	}
	return l
}

// plain is a net by the chapter's words: all messages that ever were, with those that are gone marked; cuts as they were said.
type plain struct {
	all  []api.Message
	gone []bool
	cuts [][2]int
}

// under are the places of all that are under way.
func (p *plain) under() []int {
	var l []int
	for i, gone := range p.gone {
		if !gone {
			l = append(l, i)
		}
	}
	return l
}

func (p *plain) send(from, to int, bodies ...string) int {
	n := 0
	for _, body := range bodies {
		if len(p.under()) == 4096 {
			continue
		}
		p.all = append(p.all, api.Message{N: len(p.all) + 1, From: from, To: to, Body: body})
		p.gone = append(p.gone, false)
		n++
	}
	return n
}

// open are the places of those that may be delivered.
func (p *plain) open() []int {
	return slices.DeleteFunc(p.under(), func(i int) bool { return !p.joined(p.all[i].From, p.all[i].To) })
}

func (p *plain) waits(to ...int) []api.Message {
	l := []api.Message{}
	for _, i := range p.open() {
		if len(to) == 0 || slices.Contains(to, p.all[i].To) {
			l = append(l, p.all[i])
		}
	}
	return l
}

// pick goes step by step, and begins again behind the last one. (Small picks only.)
func (p *plain) pick(pick int, l []int) (int, bool) {
	if len(l) == 0 {
		return 0, false
	}
	steps, at := pick, 0
	if pick < 0 {
		steps = -pick - 1
	}
	for range steps {
		at++
		if at == len(l) {
			at = 0
		}
	}
	return l[at], true
}

func (p *plain) take(pick int) taken {
	i, there := p.pick(pick, p.open())
	if !there {
		return taken{}
	}
	p.gone[i] = true
	return taken{p.all[i], true}
}

func (p *plain) drop(pick int) bool {
	i, there := p.pick(pick, p.under())
	if there {
		p.gone[i] = true
	}
	return there
}

func (p *plain) double(pick int) bool {
	i, there := p.pick(pick, p.under())
	return there && p.send(p.all[i].From, p.all[i].To, p.all[i].Body) == 1
}

func (p *plain) lose(node int) int {
	n := 0
	for _, i := range p.under() {
		if p.all[i].From == node || p.all[i].To == node {
			p.gone[i] = true
			n++
		}
	}
	return n
}

func (p *plain) cut(a, b int) {
	if a != b && p.joined(a, b) {
		p.cuts = append(p.cuts, [2]int{a, b})
	}
}

func (p *plain) heal(nodes ...int) int {
	had := len(p.cuts)
	p.cuts = slices.DeleteFunc(p.cuts, func(c [2]int) bool {
		return len(nodes) == 0 || slices.Contains(nodes, c[0]) || slices.Contains(nodes, c[1])
	})
	return had - len(p.cuts)
}

func (p *plain) joined(a, b int) bool {
	return !slices.Contains(p.cuts, [2]int{a, b}) && !slices.Contains(p.cuts, [2]int{b, a})
}

// holds tells whether a net stands as p, as far as asking leaves it as it is.
func (p *plain) holds(t *testing.T, what string, got *net.Net, nodes ...int) {
	t.Helper()
	is(t, what+": Waits", got.Waits(), p.waits())
	for _, a := range nodes {
		is(t, what+": Waits of "+strconv.Itoa(a), got.Waits(a), p.waits(a))
		for _, b := range nodes {
			is(t, fmt.Sprint(what, ": Joined of ", a, " and ", b), got.Joined(a, b), p.joined(a, b))
		}
	}
}

// drained tells, at the end of its net, whether all that is under way is what p has: healed, it may all be delivered.
func (p *plain) drained(t *testing.T, what string, got *net.Net) {
	t.Helper()
	is(t, what+": Heal", got.Heal(), p.heal())
	is(t, what+": all under way", got.Waits(), p.waits())
	for len(p.under()) > 0 {
		is(t, what+": Take of the first", answer(got.Take(0)), p.take(0))
	}
	is(t, what+": Take of none", answer(got.Take(0)), taken{})
	is(t, what+": Drop of none", got.Drop(0), false)
}
