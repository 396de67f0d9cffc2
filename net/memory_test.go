package net_test

import (
	"slices"
	"testing"

	"murmuration/api"
	"murmuration/net"
)

// scribble writes over all that a list could reach.
func scribble[T any](l []T, another T) {
	l = l[:cap(l)]
	for i := range l {
		l[i] = another
	}
}

var another = api.Message{N: 99, From: 98, To: 97, Body: "another one"}

func TestWhatIsToldIsTheOwnersOwn(t *testing.T) {
	n, p := net.New(), &plain{}
	for i, body := range texts(40) {
		n.Send(i%3, i%2, body)
		p.send(i%3, i%2, body)
	}
	scribble(n.Waits(), another)
	scribble(n.Waits(1), another)
	p.holds(t, "behind scribbling", n, 0, 1, 2)
	n.Take(7)
	p.take(7)
	n.Drop(3)
	p.drop(3)
	scribble(n.Waits(), another)
	is(t, "Send", n.Send(1, 2, "x"), p.send(1, 2, "x"))
	p.holds(t, "behind more of it", n, 0, 1, 2)
	p.drained(t, "behind more of it", n)
}

func TestWhatIsToldDoesNotChangeLater(t *testing.T) {
	n := sent(texts(40)...)
	all, some := n.Waits(), n.Waits(2, 3)
	wasAll, wasSome := slices.Clone(all), slices.Clone(some)
	n.Take(0)
	n.Drop(5)
	n.Double(2)
	n.Send(3, 4, "x", "y")
	n.Cut(1, 2)
	n.Lose(1)
	n.Send(5, 6, texts(60)...)
	is(t, "Waits", all, wasAll)
	is(t, "Waits to some", some, wasSome)
}

func TestWhatIsHandedInStays(t *testing.T) {
	n, p := net.New(), &plain{}
	l := make([]string, 3, 8)
	copy(l, []string{"c", "a", "b"})
	wasTexts := slices.Clone(l[:8])
	n.Send(1, 2, l...)
	p.send(1, 2, "c", "a", "b")
	is(t, "the bodies of Send", bodies(sent(l[:8]...).Waits()), bodies(sent(wasTexts...).Waits()))
	scribble(l, "another one")
	p.holds(t, "behind Send's bodies were changed", n, 1, 2)

	nodes := make([]int, 3, 8)
	copy(nodes, []int{3, 2, 3})
	was := slices.Clone(nodes[:8])
	waits := n.Waits(nodes...)
	is(t, "the nodes of Waits", nodes[:8], was)
	n.Cut(1, 2)
	p.cut(1, 2)
	is(t, "Heal", n.Heal(nodes...), p.heal(3, 2, 3))
	is(t, "the nodes of Heal", nodes[:8], was)
	scribble(nodes, 1)
	is(t, "Waits", waits, p.waits())
	p.holds(t, "behind the nodes were changed", n, 1, 2, 3)
}

// Bodies beyond the room are handed in as the others are, and stay as they are.
func TestWhatHasNoRoomStays(t *testing.T) {
	n := sent(texts(4000)...)
	l := texts(200)
	is(t, "Send", n.Send(1, 2, l...), 96)
	is(t, "the bodies", bodies(sent(l...).Waits()), bodies(sent(texts(200)...).Waits()))
}
