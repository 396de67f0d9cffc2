package kinds

import (
	"slices"

	"murmuration/api"
)

// mostPath leaves room for one field more within a store: a set's element, or the field that is dropped.
const mostPath = api.MaxDeep - 1

// targetOf is the kind of what a path leads to, and whether it may lead there: only a map has fields.
func targetOf(kind int, path []api.Field) (int, bool) {
	if len(path) > mostPath {
		return 0, false
	}
	for _, f := range path {
		if kind != api.KindMap || !inMaps(f.Kind) {
			return 0, false
		}
		kind = f.Kind
	}
	return kind, true
}

// inMaps tells whether a map has fields of that kind.
func inMaps(kind int) bool { return kind >= api.KindCounter && kind <= api.KindMap }

// may tells whether the operation is one of the target's kind.
func may(target int, u api.Update) bool {
	switch u.Op {
	case api.OpPut:
		return target == api.KindObject
	case api.OpDelete:
		return len(u.Path) == 0
	case api.OpAdd:
		return target == api.KindCounter
	case api.OpEnable, api.OpDisable:
		return target == api.KindFlag
	case api.OpInsert, api.OpRemove:
		return target == api.KindSet
	case api.OpAssign:
		return target == api.KindRegister
	case api.OpDrop:
		return target == api.KindMap && inMaps(u.Kind)
	}
	return false
}

// tooLong looks at S whatever the operation is, even if that makes nothing of it.
func tooLong(u api.Update) bool {
	most := api.MaxText
	if u.Op == api.OpPut {
		most = api.MaxBlob
	}
	return len(u.S) > most || slices.ContainsFunc(u.Path, func(f api.Field) bool {
		return len(f.Name) > api.MaxText
	})
}
