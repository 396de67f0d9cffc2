package wheel_test

import (
	"slices"
	"testing"

	"murmuration/wheel"
)

// scribble writes over all that a list could reach.
func scribble(l []string) {
	l = l[:cap(l)]
	for i := range l {
		l[i] = "another one"
	}
}

func TestWhatIsToldIsTheOwnersOwn(t *testing.T) {
	w, p := wheel.New(), &plain{}
	names := numbers(40)
	w.Set(5, names...)
	w.Set(6, names[:20]...)
	p.set(5, names...)
	p.set(6, names[:20]...)
	scribble(w.Due(4))
	scribble(w.Due(5))
	p.due(5)
	p.holds(t, "behind scribbling", w, append(names, "another one")...)
	is(t, "Due", w.Due(6), p.due(6))
}

func TestWhatIsToldDoesNotChangeLater(t *testing.T) {
	w := wheel.New()
	names := numbers(40)
	w.Set(5, names...)
	due := w.Due(5)
	w.Set(1, "x", "y", "z")
	w.Set(2, names[20:]...)
	w.Due(1)
	w.Cancel(names...)
	w.Set(5, "x")
	w.Due(9)
	is(t, "Due", due, names)
}

func TestWhatIsHandedInStays(t *testing.T) {
	w, p := wheel.New(), &plain{}
	names := make([]string, 4, 8)
	copy(names, []string{"c", "a", "b", "a"})
	was := slices.Clone(names[:8])

	w.Set(5, names...)
	p.set(5, "c", "a", "b", "a")
	is(t, "the names of Set", names[:8], was)
	scribble(names)
	p.holds(t, "behind Set's names were changed", w, "another one", "")

	gone := make([]string, 3, 8)
	copy(gone, []string{"b", "none", "b"})
	was = slices.Clone(gone[:8])
	is(t, "Cancel", w.Cancel(gone...), p.cancel("b"))
	is(t, "the names of Cancel", gone[:8], was)
	scribble(gone)
	p.holds(t, "behind Cancel's names were changed", w, "another one", "b")
	is(t, "Due", w.Due(5), []string{"c", "a"})
}

// What was due may be set again, and cancelled, just as it was told.
func TestWhatIsToldMayBeHandedIn(t *testing.T) {
	w := wheel.New()
	names := numbers(40)
	w.Set(5, names...)
	due := w.Due(5)
	w.Set(6, due...)
	scribble(due)
	again := w.Due(6)
	is(t, "Due", again, names)
	w.Set(7, again...)
	is(t, "Cancel", w.Cancel(again...), 40)
	is(t, "what was told", again, names)
}
