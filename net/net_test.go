package net_test

import (
	"math"
	"slices"
	"strconv"
	"strings"
	"testing"

	"murmuration/api"
	"murmuration/net"
)

// edges are nodes' numbers at the ends of what there are, about 0, and that of no node.
var edges = []int{math.MinInt, math.MinInt + 1, -1 << 32, -1, 0, 1, 7, 8, 1 << 32, math.MaxInt - 1, math.MaxInt}

// oddBodies are bodies that are beginnings of one another, no runes, long, or none.
var oddBodies = []string{"", "a", "aa", "a\x00", "\x00", "\xff", "\x80", "\xc3\xa4", " ", "", strings.Repeat("n", 1<<17)}

// sent is a net with these messages, each from 1 to 2.
func sent(bodies ...string) *net.Net {
	n := net.New()
	n.Send(1, 2, bodies...)
	return n
}

// full has 4096 messages from 1 to 2, their bodies 0, 1 and so on.
func full() *net.Net { return sent(texts(api.MaxWaits)...) }

// The chapter's examples

func TestExamples(t *testing.T) {
	n := net.New()
	is(t, "Send", n.Send(1, 2, "a", "b"), 2)
	is(t, "Send back", n.Send(2, 1, "c"), 1)
	n.Cut(1, 2)
	is(t, "Waits", n.Waits(), []api.Message{})
	is(t, "Heal", n.Heal(), 1)
	is(t, "Take(4)", answer(n.Take(4)), taken{api.Message{N: 2, From: 1, To: 2, Body: "b"}, true})
	is(t, "Double(0)", n.Double(0), true)
	is(t, "Drop(1)", n.Drop(1), true)
	is(t, "Waits", n.Waits(), []api.Message{{N: 1, From: 1, To: 2, Body: "a"}, {N: 4, From: 1, To: 2, Body: "a"}})
}

// P14.1

func TestNew(t *testing.T) {
	one, other := net.New(), net.New()
	one.Send(1, 2, "a")
	one.Cut(3, 4)
	(&plain{}).holds(t, "New beside another one", other, edges...)
	is(t, "Take", answer(other.Take(0)), taken{})
	is(t, "Drop", other.Drop(0), false)
	is(t, "Double", other.Double(0), false)
	is(t, "Lose", other.Lose(1), 0)
	is(t, "Heal", other.Heal(), 0)
	other.Send(5, 6, "b")
	is(t, "numbers are each net's own", other.Waits(), []api.Message{{N: 1, From: 5, To: 6, Body: "b"}})
	is(t, "the other one", one.Waits(), []api.Message{{N: 1, From: 1, To: 2, Body: "a"}})
}

func TestSend(t *testing.T) {
	n := net.New()
	is(t, "two", n.Send(1, 2, "b", "a"), 2)
	is(t, "none", n.Send(1, 2), 0)
	is(t, "an empty list", n.Send(3, 4, []string{}...), 0)
	is(t, "no bytes", n.Send(2, 1, ""), 1)
	is(t, "to itself, the same twice", n.Send(3, 3, "a", "a"), 2)
	is(t, "Waits", n.Waits(), []api.Message{
		{N: 1, From: 1, To: 2, Body: "b"}, {N: 2, From: 1, To: 2, Body: "a"}, {N: 3, From: 2, To: 1, Body: ""},
		{N: 4, From: 3, To: 3, Body: "a"}, {N: 5, From: 3, To: 3, Body: "a"},
	})
}

func TestNodesAndBodiesOfAllKinds(t *testing.T) {
	n, p := net.New(), &plain{}
	for i, from := range edges {
		for j, to := range edges {
			b := oddBodies[(i+j)%len(oddBodies)]
			is(t, "Send", n.Send(from, to, b), p.send(from, to, b))
		}
	}
	p.holds(t, "odd ones", n, edges...)
	for i, a := range edges {
		n.Cut(a, edges[(i*3+1)%len(edges)])
		p.cut(a, edges[(i*3+1)%len(edges)])
	}
	p.holds(t, "odd ones, some cut", n, edges...)
	for _, node := range []int{math.MinInt, 0, math.MaxInt, 5} {
		is(t, "Heal", n.Heal(node), p.heal(node))
		is(t, "Lose", n.Lose(node), p.lose(node))
		p.holds(t, "odd ones, some healed and lost", n, edges...)
	}
	p.drained(t, "odd ones", n)
}

func TestSendHasRoomForSoMany(t *testing.T) {
	for what, c := range map[string]struct{ there, more, want int }{
		"just so many":             {0, 4096, 4096},
		"one too many":             {0, 4097, 4096},
		"far too many":             {0, 100000, 4096},
		"the last one":             {4095, 1, 1},
		"two where there is one":   {4095, 2, 1},
		"one where there is none":  {4096, 1, 0},
		"some of them":             {4000, 200, 96},
		"none where there is none": {4096, 0, 0},
	} {
		n := sent(texts(c.there)...)
		more := texts(c.more)
		is(t, what, n.Send(3, 4, more...), c.want)
		is(t, what+": Waits", len(n.Waits()), c.there+c.want)
		is(t, what+": the first ones are kept", bodies(n.Waits(4)), bodies(sent(more[:c.want]...).Waits()))
	}
}

// Those that are cut off have their room, too.
func TestRoomOfThoseThatAreCutOff(t *testing.T) {
	n := full()
	n.Cut(1, 2)
	is(t, "Send", n.Send(3, 4, "a"), 0)
	is(t, "Waits", n.Waits(), []api.Message{})
	is(t, "Double", n.Double(0), false)
	is(t, "Drop", n.Drop(0), true)
	is(t, "Send behind Drop", n.Send(3, 4, "b", "c"), 1)
	is(t, "Waits behind Drop", bodies(n.Waits()), "b ")
}

func TestRoomComesBack(t *testing.T) {
	for what, c := range map[string]struct {
		gone func(*net.Net) int
		want int
	}{
		"Take": {func(n *net.Net) int { n.Take(7); return 1 }, 1},
		"Drop": {func(n *net.Net) int { n.Drop(7); return 1 }, 1},
		"Lose": {func(n *net.Net) int { return n.Lose(2) }, 4096},
	} {
		n := full()
		is(t, what+": Send to a full one", n.Send(3, 4, "a"), 0)
		is(t, what, c.gone(n), c.want)
		is(t, what+": Send", n.Send(3, 4, texts(5000)...), c.want)
		is(t, what+": Waits", len(n.Waits()), 4096)
		is(t, what+": Send once more", n.Send(3, 4, "a"), 0)
	}
}

// A number is that of a message that came to be under way: 1, 2, 3 and so on.
func TestNumbers(t *testing.T) {
	n := sent("a", "b", "c")
	n.Take(2)
	n.Send(1, 2, "d")
	is(t, "behind Take of the last", n.Waits()[2].N, 4)
	n.Drop(2)
	n.Double(0)
	is(t, "behind Drop of the last", n.Waits()[2].N, 5)
	n.Lose(1)
	n.Send(1, 2, "e")
	is(t, "once all are lost", n.Waits()[0].N, 6)
	is(t, "Double of none is no message", net.New().Double(0), false)

	n = full()
	n.Send(1, 2, "lost", "lost")
	n.Double(0)
	n.Take(0)
	n.Send(3, 4, "a", "lost")
	is(t, "behind such as had no room", n.Waits(4), []api.Message{{N: 4097, From: 3, To: 4, Body: "a"}})
}

func TestWaits(t *testing.T) {
	n := net.New()
	n.Send(1, 2, "a")
	n.Send(3, 1, "b")
	n.Send(2, 2, "c")
	n.Send(1, 3, "d")
	n.Send(2, 1, "e")
	for what, c := range map[string]struct {
		to   []int
		want string
	}{
		"of all":                        {nil, "a b c d e "},
		"of an empty list":              {[]int{}, "a b c d e "},
		"to 1":                          {[]int{1}, "b e "},
		"to 2":                          {[]int{2}, "a c "},
		"to 3":                          {[]int{3}, "d "},
		"to one that has none":          {[]int{4}, ""},
		"to nobody":                     {[]int{0, -1, math.MinInt, math.MaxInt}, ""},
		"to two":                        {[]int{3, 1}, "b d e "},
		"to one twice":                  {[]int{1, 1, 1}, "b e "},
		"to all, not rising":            {[]int{3, 2, 1}, "a b c d e "},
		"to one, and one that has none": {[]int{9, 2}, "a c "},
	} {
		is(t, what, bodies(n.Waits(c.to...)), c.want)
		is(t, what+" once more", bodies(n.Waits(c.to...)), c.want)
	}
	n.Cut(2, 1)
	is(t, "of all, some cut off", bodies(n.Waits()), "b c d ")
	is(t, "to 1, some cut off", bodies(n.Waits(1)), "b ")
	is(t, "to 2, some cut off", bodies(n.Waits(2)), "c ")
	n.Send(1, 2, "f")
	is(t, "what is sent to one who is cut off", bodies(n.Waits(2)), "c ")
	n.Heal(1)
	is(t, "healed: by rising numbers again", bodies(n.Waits()), "a b c d e f ")
}

// P14.2

// picked are picks of five things, each with the place that it has.
var picked = map[int]int{
	0: 0, 1: 1, 4: 4, 5: 0, 6: 1, 9: 4, 10: 0, 5003: 3,
	-1: 0, -2: 1, -5: 4, -6: 0, -7: 1, -10: 4, -11: 0, -5004: 3,
	1 << 40:         int(uint64(1<<40) % 5),
	math.MaxInt:     int(uint64(1<<63-1) % 5),
	math.MaxInt - 1: int(uint64(1<<63-2) % 5),
	math.MinInt:     int(uint64(1<<63-1) % 5),
	math.MinInt + 1: int(uint64(1<<63-2) % 5),
}

var five = []string{"a", "b", "c", "d", "e"}

// without is five but for the one at a place.
func without(at int) string {
	return strings.Join(slices.Delete(slices.Clone(five), at, at+1), " ") + " "
}

func TestTake(t *testing.T) {
	for pick, at := range picked {
		what := "Take(" + strconv.Itoa(pick) + ")"
		n := sent(five...)
		is(t, what, answer(n.Take(pick)), taken{api.Message{N: at + 1, From: 1, To: 2, Body: five[at]}, true})
		is(t, what+": Waits", bodies(n.Waits()), without(at))
		is(t, what+" of none", answer(net.New().Take(pick)), taken{})
	}
}

// Take picks among those that may be delivered alone.
func TestTakeOfThoseThatMayBeDelivered(t *testing.T) {
	for pick, at := range picked {
		what := "Take(" + strconv.Itoa(pick) + ")"
		n := net.New()
		for _, body := range five {
			n.Send(3, 4, "cut off", "cut off as well")
			n.Send(4, 3, "cut off the other way")
			n.Send(1, 2, body)
		}
		n.Cut(4, 3)
		is(t, what, answer(n.Take(pick)), taken{api.Message{N: 4 * (at + 1), From: 1, To: 2, Body: five[at]}, true})
		is(t, what+": Waits", bodies(n.Waits()), without(at))
		n.Heal()
		is(t, what+": those that were cut off stay", len(n.Waits()), 19)
	}
	n := sent("a")
	n.Cut(1, 2)
	is(t, "Take, if all are cut off", answer(n.Take(0)), taken{})
	n.Heal(2)
	is(t, "Take, once it is healed", answer(n.Take(0)), taken{api.Message{N: 1, From: 1, To: 2, Body: "a"}, true})
}

func TestDrop(t *testing.T) {
	for pick, at := range picked {
		what := "Drop(" + strconv.Itoa(pick) + ")"
		n := sent(five...)
		is(t, what, n.Drop(pick), true)
		is(t, what+": Waits", bodies(n.Waits()), without(at))
		is(t, what+" of none", net.New().Drop(pick), false)
	}
}

func TestDouble(t *testing.T) {
	for pick, at := range picked {
		what := "Double(" + strconv.Itoa(pick) + ")"
		n := sent(five...)
		is(t, what, n.Double(pick), true)
		is(t, what+": Waits", bodies(n.Waits()), "a b c d e "+five[at]+" ")
		is(t, what+": the new one", n.Waits()[5], api.Message{N: 6, From: 1, To: 2, Body: five[at]})
		is(t, what+" of none", net.New().Double(pick), false)
	}
}

// Drop and Double pick among all, cut off or not.
func TestPicksOfAll(t *testing.T) {
	mixed := func() *net.Net {
		n := net.New()
		n.Send(1, 2, "a")
		n.Send(3, 4, "b")
		n.Send(2, 1, "c")
		n.Cut(1, 2)
		return n
	}
	for pick, want := range map[int]string{0: "b c ", 1: "a c ", 2: "a b ", 3: "b c ", -3: "a b "} {
		n := mixed()
		is(t, "Drop", n.Drop(pick), true)
		n.Heal()
		is(t, "Waits behind Drop", bodies(n.Waits()), want)
	}
	for pick, want := range map[int]string{0: "a b c a ", 1: "a b c b ", 2: "a b c c ", 3: "a b c a ", -3: "a b c c "} {
		n := mixed()
		is(t, "Double", n.Double(pick), true)
		n.Heal()
		is(t, "Waits behind Double", bodies(n.Waits()), want)
	}
	n := mixed()
	n.Double(2)
	is(t, "what is doubled is cut off as well", bodies(n.Waits()), "b ")
	n.Heal()
	is(t, "from and to stay", n.Waits()[3], api.Message{N: 4, From: 2, To: 1, Body: "c"})
}

func TestDoubleHasRoomForSoMany(t *testing.T) {
	n := sent(texts(4095)...)
	is(t, "Double, room for one", n.Double(9), true)
	is(t, "Double, no room", n.Double(9), false)
	is(t, "Double of another one, no room", n.Double(-3), false)
	waits := n.Waits()
	is(t, "Waits", len(waits), 4096)
	is(t, "the last one", waits[4095], api.Message{N: 4096, From: 1, To: 2, Body: "9"})
	n.Take(0)
	is(t, "Double, room again", n.Double(0), true)
	is(t, "the last one now", n.Waits()[4095], api.Message{N: 4097, From: 1, To: 2, Body: "1"})
}

func TestLose(t *testing.T) {
	for node, c := range map[int]struct {
		n    int
		left string
	}{
		1: {3, "c e f "}, 2: {3, "b d e "}, 3: {4, "a d "}, 4: {1, "a b c d f "},
		5: {0, "a b c d e f "}, 0: {0, "a b c d e f "}, -1: {0, "a b c d e f "}, math.MinInt: {0, "a b c d e f "},
	} {
		n := net.New()
		n.Send(1, 2, "a")
		n.Send(3, 1, "b")
		n.Send(2, 3, "c")
		n.Send(1, 1, "d")
		n.Send(4, 3, "e")
		n.Send(3, 2, "f")
		n.Cut(1, 2)
		n.Cut(3, 4)
		what := "Lose(" + strconv.Itoa(node) + ")"
		is(t, what, n.Lose(node), c.n)
		is(t, what+" once more", n.Lose(node), 0)
		is(t, what+" heals nobody", n.Joined(1, 2) || n.Joined(4, 3), false)
		is(t, what+": Heal", n.Heal(), 2)
		is(t, what+": what is left", bodies(n.Waits()), c.left)
		is(t, what+": it may be sent to again", n.Send(9, node, "g")+n.Send(node, 9, "h"), 2)
	}
	is(t, "of a full one", full().Lose(1), 4096)
	is(t, "of none", net.New().Lose(1), 0)
}

// P14.3

func TestCut(t *testing.T) {
	n, p := net.New(), &plain{}
	for _, c := range [][2]int{{1, 2}, {2, 1}, {3, 1}, {2, 2}, {5, 4}, {0, -1}, {7, 7}} {
		n.Cut(c[0], c[1])
		p.cut(c[0], c[1])
		p.holds(t, "cut", n, -1, 0, 1, 2, 3, 4, 5, 6, 7)
	}
	is(t, "Heal: a pair counts once, and one of one node is none", n.Heal(), 4)
	is(t, "Heal once more", n.Heal(), 0)
	(&plain{}).holds(t, "healed", n, -1, 0, 1, 2, 3, 4, 5, 6, 7)
}

func TestANodeIsNeverCutOffFromItself(t *testing.T) {
	for _, node := range edges {
		n := net.New()
		n.Cut(node, node)
		is(t, "Joined", n.Joined(node, node), true)
		n.Cut(node, 3)
		n.Send(node, node, "a")
		is(t, "Joined, cut off from another one", n.Joined(node, node), true)
		is(t, "Waits", bodies(n.Waits()), "a ")
		is(t, "Heal", n.Heal(), 1)
	}
}

func TestCutOnlyTheseTwo(t *testing.T) {
	for _, a := range edges {
		for _, b := range edges {
			n, p := net.New(), &plain{}
			n.Cut(a, b)
			p.cut(a, b)
			p.holds(t, "cut", n, edges...)
		}
	}
}

func TestHeal(t *testing.T) {
	cuts := [][2]int{{1, 2}, {3, 1}, {2, 3}, {4, 2}, {5, 6}}
	for what, c := range map[string]struct {
		nodes []int
		n     int
		cut   [][2]int
	}{
		"all":                         {nil, 5, nil},
		"all, of an empty list":       {[]int{}, 5, nil},
		"one":                         {[]int{1}, 2, [][2]int{{2, 3}, {2, 4}, {5, 6}}},
		"another one":                 {[]int{2}, 3, [][2]int{{1, 3}, {5, 6}}},
		"one of a single pair":        {[]int{6}, 1, [][2]int{{1, 2}, {1, 3}, {2, 3}, {2, 4}}},
		"both of a pair: counts once": {[]int{5, 6}, 1, [][2]int{{1, 2}, {1, 3}, {2, 3}, {2, 4}}},
		"two":                         {[]int{3, 4}, 3, [][2]int{{1, 2}, {5, 6}}},
		"one twice":                   {[]int{4, 4}, 1, [][2]int{{1, 2}, {1, 3}, {2, 3}, {5, 6}}},
		"one that is not cut off":     {[]int{7}, 0, cuts},
		"nobody":                      {[]int{0, -1, math.MinInt, math.MaxInt}, 0, cuts},
		"one, and nobody":             {[]int{0, 5}, 1, [][2]int{{1, 2}, {1, 3}, {2, 3}, {2, 4}}},
		"each of them":                {[]int{6, 5, 4, 3, 2, 1}, 5, nil},
	} {
		n := net.New()
		for _, two := range cuts {
			n.Cut(two[0], two[1])
		}
		is(t, what, n.Heal(c.nodes...), c.n)
		(&plain{cuts: c.cut}).holds(t, what, n, 0, 1, 2, 3, 4, 5, 6, 7)
		is(t, what+": the others", n.Heal(), len(c.cut))
	}
}

func TestCutAgainBehindHeal(t *testing.T) {
	n := sent("a")
	for range 3 {
		n.Cut(1, 2)
		is(t, "Waits, cut off", bodies(n.Waits()), "")
		is(t, "Heal", n.Heal(2), 1)
		is(t, "Waits, healed", bodies(n.Waits()), "a ")
	}
}

func TestManyCuts(t *testing.T) {
	n := net.New()
	for i := range 20000 {
		n.Cut(i, i+1)
		n.Cut(i+1, i)
	}
	var odd []int
	for i := 1; i < 15000; i += 2 {
		odd = append(odd, i)
	}
	is(t, "Heal of many", n.Heal(odd...), 15000)
	is(t, "healed", n.Joined(14999, 15000), true)
	is(t, "not healed", n.Joined(15001, 15000), false)
	is(t, "Heal of all", n.Heal(), 5000)
}

// A nil net, and a zero one

func TestNilNet(t *testing.T) {
	var n *net.Net
	for range 2 {
		n.Cut(1, 2)
		is(t, "Send", n.Send(1, 2, "a", "b"), 0)
		is(t, "Send of no bodies", n.Send(1, 2), 0)
		is(t, "Waits", n.Waits(), []api.Message{})
		is(t, "Waits to some", n.Waits(2, 1), []api.Message{})
		is(t, "Take", answer(n.Take(0)), taken{})
		is(t, "Drop", n.Drop(0), false)
		is(t, "Double", n.Double(0), false)
		is(t, "Lose", n.Lose(1), 0)
		is(t, "Joined", n.Joined(1, 2), true)
		is(t, "Joined to itself", n.Joined(1, 1), true)
		is(t, "Heal", n.Heal(), 0)
		is(t, "Heal of some", n.Heal(1, 2), 0)
	}
}

func TestZeroNet(t *testing.T) {
	for what, first := range map[string]func(*net.Net){
		"nothing": func(*net.Net) {},
		"Send":    func(n *net.Net) { is(t, "Send", n.Send(1, 2), 0) },
		"Waits":   func(n *net.Net) { is(t, "Waits", n.Waits(1), []api.Message{}) },
		"Take":    func(n *net.Net) { is(t, "Take", answer(n.Take(-1)), taken{}) },
		"Drop":    func(n *net.Net) { is(t, "Drop", n.Drop(3), false) },
		"Double":  func(n *net.Net) { is(t, "Double", n.Double(3), false) },
		"Lose":    func(n *net.Net) { is(t, "Lose", n.Lose(1), 0) },
		"Cut":     func(n *net.Net) { n.Cut(1, 1) },
		"Heal":    func(n *net.Net) { is(t, "Heal", n.Heal(), 0) },
		"Joined":  func(n *net.Net) { is(t, "Joined", n.Joined(1, 2), true) },
	} {
		var n net.Net
		p := &plain{}
		first(&n)
		p.holds(t, "zero, behind "+what, &n, 1, 2, 3)
		is(t, "Send, behind "+what, n.Send(1, 2, "a"), p.send(1, 2, "a"))
		is(t, "Send to another one, behind "+what, n.Send(1, 3, "b", "c"), p.send(1, 3, "b", "c"))
		n.Cut(2, 1)
		p.cut(2, 1)
		p.holds(t, "no more zero, behind "+what, &n, 1, 2, 3)
		p.drained(t, "no more zero, behind "+what, &n)
	}
	var n net.Net
	n.Cut(1, 2)
	is(t, "Cut of a zero one", n.Joined(2, 1), false)
}
