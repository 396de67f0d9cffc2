package gossip_test

import (
	"fmt"
	"math"
	"math/rand"
	"strconv"
	"strings"
	"testing"

	"murmuration/api"
	"murmuration/ring"
)

const most = math.MaxUint64

func is(t *testing.T, what string, got, want any) {
	t.Helper()
	if g, w := fmt.Sprint(got), fmt.Sprint(want); g != w {
		t.Errorf("%s: %s, want %s", what, g, w)
	}
}

// text writes a ring as it is: its members (node/state/V), a bar, its owners (node:V, and x how often, if one behind another has the same).
func text(r api.Ring) string {
	var l []string
	for _, m := range r.Members {
		l = append(l, fmt.Sprintf("%d/%d/%d", m.Node, m.State, m.V))
	}
	l = append(l, "|")
	for p := 0; p < len(r.Owners); {
		n := 1
		for p+n < len(r.Owners) && r.Owners[p+n] == r.Owners[p] {
			n++
		}
		l = append(l, fmt.Sprintf("%d:%dx%d", r.Owners[p].Node, r.Owners[p].V, n))
		p += n
	}
	return strings.ReplaceAll(strings.Join(l, " "), strconv.FormatUint(most, 10), "most")
}

// at is the ring that such a text stands for; x1 may be left out, and what is not said of owners is nobody, V 0.
func at(s string) api.Ring {
	var r api.Ring
	members, owners, _ := strings.Cut(s, "|")
	for _, f := range strings.Fields(members) {
		part := strings.Split(f, "/")
		r.Members = append(r.Members, api.Member{Node: number(part[0]), State: number(part[1]), V: version(part[2])})
	}
	p := 0
	for _, f := range strings.Fields(owners) {
		f, times, _ := strings.Cut(f+"x1", "x")
		node, v, _ := strings.Cut(f, ":")
		times, _, _ = strings.Cut(times, "x")
		for range number(times) {
			r.Owners[p] = api.Owner{Node: number(node), V: version(v)}
			p++
		}
	}
	return r
}

func number(s string) int {
	n, err := strconv.Atoi(s)
	if err != nil {
		panic(err)
	}
	return n
}

func version(s string) uint64 {
	if s == "most" {
		return most
	}
	v, err := strconv.ParseUint(s, 10, 64)
	if err != nil {
		panic(err)
	}
	return v
}

func tells(t *testing.T, what string, got api.Ring, want string) {
	t.Helper()
	is(t, what, text(got), text(at(want)))
}

// What follows is the chapter's words once more, as plainly as they can be said, to hold the package against.

func plainNorm(r api.Ring) api.Ring { return plainMerge(r) }

func plainMerge(l ...api.Ring) api.Ring {
	var merged api.Ring
	for node := 1; node <= 7; node++ {
		if m, there := plainMember(node, l); there {
			merged.Members = append(merged.Members, m)
		}
	}
	for p := range 8 {
		for _, r := range l {
			o := r.Owners[p]
			if o.Node < 0 || o.Node > 7 {
				o.Node = 0
			}
			had := merged.Owners[p]
			if o.V > had.V || o.V == had.V && o.Node > had.Node {
				merged.Owners[p] = o
			}
		}
	}
	return merged
}

func plainMember(node int, l []api.Ring) (api.Member, bool) {
	var newest api.Member
	for _, r := range l {
		for _, m := range r.Members {
			if m.Node != node || m.State < 1 || m.State > 3 {
				continue
			}
			if m.V > newest.V || m.V == newest.V && m.State > newest.State {
				newest = m
			}
		}
	}
	return newest, newest.State > 0
}

func plainState(r api.Ring, node int) int {
	if node < 1 || node > 7 {
		return 0
	}
	m, _ := plainMember(node, []api.Ring{r})
	return m.State
}

func plainMore(v uint64) uint64 {
	if v < most {
		v++
	}
	return v
}

func plainTurn(r api.Ring, node, state int) api.Ring {
	m, _ := plainMember(node, []api.Ring{r})
	var members []api.Member
	for n := 1; n <= 7; n++ {
		if had, there := plainMember(n, []api.Ring{r}); n == node {
			members = append(members, api.Member{Node: node, State: state, V: plainMore(m.V)})
		} else if there {
			members = append(members, had)
		}
	}
	return api.Ring{Members: members, Owners: r.Owners}
}

func plainJoin(r api.Ring, node int) api.Ring {
	r = plainNorm(r)
	if node < 1 || node > 7 || plainState(r, node) == 1 {
		return r
	}
	return plainTurn(r, node, 1)
}

func plainLeave(r api.Ring, node int) api.Ring {
	r = plainNorm(r)
	if plainState(r, node) != 1 {
		return r
	}
	return plainTurn(r, node, 2)
}

func plainMembers(r api.Ring, states ...int) []int {
	var nodes []int
	for node := 1; node <= 7; node++ {
		state := plainState(r, node)
		found := len(states) == 0
		for _, s := range states {
			found = found || s == state
		}
		if found && state != 0 {
			nodes = append(nodes, node)
		}
	}
	return nodes
}

func plainOwners(r api.Ring) api.Owners {
	var o api.Owners
	for p, owner := range plainNorm(r).Owners {
		o[p] = owner.Node
	}
	return o
}

func plainClaimant(r api.Ring) int {
	for node := 1; node <= 7; node++ {
		if plainState(r, node) == 1 {
			return node
		}
	}
	return 0
}

func plainPlan(r api.Ring, node int) api.Ring {
	r = plainNorm(r)
	if plainState(r, node) != 1 || plainClaimant(r) != node {
		return r
	}
	claimed := ring.Claim(plainOwners(r), plainMembers(r, 1)...)
	for p := range 8 {
		if claimed[p] != r.Owners[p].Node {
			r.Owners[p] = api.Owner{Node: claimed[p], V: plainMore(r.Owners[p].V)}
		}
	}
	for _, leaving := range plainMembers(r, 2) {
		if len(ring.Owned(claimed, leaving)) == 0 {
			r = plainTurn(r, leaving, 3)
		}
	}
	return r
}

// plainBytes lays down nodes and states doubled, as integers that are not below 0 are.
func plainBytes(r api.Ring) string {
	r = plainNorm(r)
	s := plainNum(uint64(len(r.Members)))
	for _, m := range r.Members {
		s += plainNum(2*uint64(m.Node)) + plainNum(2*uint64(m.State)) + plainNum(m.V)
	}
	for _, o := range r.Owners {
		s += plainNum(2*uint64(o.Node)) + plainNum(o.V)
	}
	return s
}

func plainNum(n uint64) string {
	s := ""
	for ; n > 127; n /= 128 {
		s += string([]byte{byte(n%128 + 128)})
	}
	return s + string([]byte{byte(n)})
}

func plainSame(a, b api.Ring) bool { return plainBytes(a) == plainBytes(b) }

// drawnV has few values, so that two are often alike, and the greatest ones among them.
func drawnV(r *rand.Rand) uint64 {
	if r.Intn(8) == 0 {
		return most - uint64(r.Intn(2))
	}
	return uint64(r.Intn(4))
}

// drawn is a ring of any kind: nodes and states that may not be, nodes twice, in no order.
func drawn(r *rand.Rand) api.Ring {
	var d api.Ring
	for range r.Intn(10) {
		d.Members = append(d.Members, api.Member{Node: r.Intn(10) - 1, State: r.Intn(6) - 1, V: drawnV(r)})
	}
	for p := range d.Owners {
		d.Owners[p] = api.Owner{Node: r.Intn(11) - 2, V: drawnV(r)}
	}
	return d
}

// drawnYoung is one that is its own Norm, and whose Vs have room above them.
func drawnYoung(r *rand.Rand) api.Ring {
	d := plainNorm(drawn(r))
	for i := range d.Members {
		d.Members[i].V %= 1000
	}
	for p := range d.Owners {
		d.Owners[p].V %= 1000
	}
	return d
}
