package wheel_test

import (
	"fmt"
	"slices"
	"testing"

	"murmuration/wheel"
)

func is(t *testing.T, what string, got, want any) {
	t.Helper()
	if g, w := shown(got), shown(want); g != w {
		t.Fatalf("%s: %s, want %s", what, g, w)
	}
}

// shown has texts in quotes, so that none can be taken for several, or for nothing.
func shown(v any) string {
	switch v.(type) {
	case []string, [][]string:
		return fmt.Sprintf("%q", v)
	}
	return fmt.Sprint(v)
}

// told is a time, and whether there is one.
type told struct {
	At    int
	There bool
}

func answer(at int, there bool) told { return told{at, there} }

// set is a timer of the plain wheel.
type set struct {
	name string
	at   int
}

// plain is a wheel by the chapter's words: its timers in a list, in the order in which they were set.
type plain struct{ timers []set }

func (p *plain) set(at int, names ...string) {
	for _, name := range names {
		p.cancel(name)
		p.timers = append(p.timers, set{name, at})
	}
}

func (p *plain) cancel(names ...string) int {
	n := 0
	for _, name := range names {
		if i := p.place(name); i >= 0 {
			p.timers = slices.Delete(p.timers, i, i+1)
			n++
		}
	}
	return n
}

// due takes the first one of the least time, again and again.
func (p *plain) due(now int) []string {
	names := []string{}
	for next := p.next(); next.There && next.At <= now; next = p.next() {
		i := slices.IndexFunc(p.timers, func(s set) bool { return s.at == next.At })
		names = append(names, p.timers[i].name)
		p.timers = slices.Delete(p.timers, i, i+1)
	}
	return names
}

func (p *plain) next() told {
	var least told
	for _, s := range p.timers {
		if !least.There || s.at < least.At {
			least = told{s.at, true}
		}
	}
	return least
}

func (p *plain) at(name string) told {
	if i := p.place(name); i >= 0 {
		return told{p.timers[i].at, true}
	}
	return told{}
}

func (p *plain) place(name string) int {
	return slices.IndexFunc(p.timers, func(s set) bool { return s.name == name })
}

// holds tells whether a wheel stands as p, as far as asking leaves it as it is.
func (p *plain) holds(t *testing.T, what string, got *wheel.Wheel, names ...string) {
	t.Helper()
	is(t, what+": Len", got.Len(), len(p.timers))
	is(t, what+": Next", answer(got.Next()), p.next())
	for _, s := range p.timers {
		is(t, what+": At of "+s.name, answer(got.At(s.name)), told{s.at, true})
	}
	for _, name := range names {
		is(t, what+": At of "+name, answer(got.At(name)), p.at(name))
	}
}
