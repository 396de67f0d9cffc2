package json

import (
	"slices"

	"murmuration/api"
)

// isRight is told within how many lists and objects the value stands: a value that holds itself is deeper than may be, too.
func isRight(v api.Json, within int) bool {
	holds := v.Kind == api.JsonList || v.Kind == api.JsonObject
	switch {
	case v.Kind < api.JsonNull || v.Kind > api.JsonObject,
		v.B && v.Kind != api.JsonBool,
		v.N != 0 && v.Kind != api.JsonNumber,
		v.S != "" && v.Kind != api.JsonText,
		len(v.L) > 0 && !holds,
		len(v.Names) > 0 && v.Kind != api.JsonObject,
		len(v.Names) != len(v.L) && v.Kind == api.JsonObject,
		holds && within >= api.MostDeep:
		return false
	}
	return areOnce(v.Names...) && areRight(v.L, within+1)
}

func areRight(l []api.Json, within int) bool {
	for _, x := range l {
		if !isRight(x, within) {
			return false
		}
	}
	return true
}

func areOnce(names ...string) bool {
	there := taken{}
	for _, name := range names {
		if !there.take(name) {
			return false
		}
	}
	return true
}

// taken are the names that an object has already.
type taken map[string]struct{}

// take says whether the name was free.
func (t taken) take(name string) bool {
	_, was := t[name]
	t[name] = struct{}{}
	return !was
}

// copied shares no list with the value, nor do its own parts with one another.
func copied(v api.Json) api.Json {
	v.Names = slices.Clone(v.Names)
	v.L = slices.Clone(v.L)
	for i, x := range v.L {
		v.L[i] = copied(x)
	}
	return v
}
