package store

import (
	"cmp"
	"slices"

	"murmuration/api"
)

// byDot, bySize and byName are functions that make an order anew: at package level no function is kept in a variable.
func byDot() func(a, b api.Entry) int {
	return inTurn(
		by(func(e api.Entry) uint64 { return e.Dot.Actor }),
		by(func(e api.Entry) uint64 { return e.Dot.N }),
	)
}

// bySize is for entries of one dot.
func bySize() func(a, b api.Entry) int {
	return inTurn(
		by(func(e api.Entry) int64 { return e.N }),
		by(func(e api.Entry) string { return e.S }),
		by(func(e api.Entry) uint64 { return e.T }),
	)
}

func byName() func(a, b api.Field) int {
	return inTurn(
		by(func(f api.Field) int { return f.Kind }),
		by(func(f api.Field) string { return f.Name }),
	)
}

func by[T any, K cmp.Ordered](key func(T) K) func(a, b T) int {
	return func(a, b T) int { return cmp.Compare(key(a), key(b)) }
}

// inTurn asks an order only where those ahead of it tell no difference.
func inTurn[T any](orders ...func(a, b T) int) func(a, b T) int {
	return func(a, b T) int {
		for _, order := range orders {
			if c := order(a, b); c != 0 {
				return c
			}
		}
		return 0
	}
}

// inOrder hands on together what the order does not tell apart; the list stays as it is.
func inOrder[T any](l []T, order func(a, b T) int, take func(alike []T)) {
	l = slices.Clone(l)
	slices.SortFunc(l, order)
	for len(l) > 0 {
		n := 1
		for n < len(l) && order(l[0], l[n]) == 0 {
			n++
		}
		take(l[:n])
		l = l[n:]
	}
}

// has looks for what the order does not tell from x in a list that is in that order; the zero thing, if there is none.
func has[T any](l []T, x T, order func(a, b T) int) (T, bool) {
	i, there := slices.BinarySearchFunc(l, x, order)
	if !there {
		var none T
		return none, false
	}
	return l[i], true
}
