package swap

import "murmuration/api"

// said is what a list says of a key. A tree's keys have one sum each; what comes from elsewhere may say several.
type said struct {
	sum     [32]byte
	several bool
}

// unlike are the keys of a list, in its order and each once, that the others have not, or with another sum.
func unlike(l, others []api.Sum) []string {
	differs := from(others)
	var keys []string
	for _, k := range l {
		if differs(k) {
			keys = append(keys, k.Key)
		}
	}
	return distinct(keys)
}

// from tells of a key with its sum whether it is unlike what the others say of it.
func from(others []api.Sum) func(api.Sum) bool {
	all := map[string]said{}
	for _, k := range others {
		had, there := all[k.Key]
		all[k.Key] = said{k.Sum, had.several || there && had.sum != k.Sum}
	}
	return func(k api.Sum) bool {
		other, there := all[k.Key]
		return !there || other.several || other.sum != k.Sum
	}
}

// distinct has each one where it came first.
func distinct[T comparable](l []T) []T {
	came := map[T]struct{}{}
	var first []T
	for _, x := range l {
		if _, had := came[x]; !had {
			came[x] = struct{}{}
			first = append(first, x)
		}
	}
	return first
}
