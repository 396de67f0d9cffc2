package kinds

import "murmuration/api"

// told falls through from a register to a flag, as both say whether there is an entry.
func told(kind int, norm api.Store) api.Value {
	v := api.Value{Kind: kind}
	switch kind {
	case api.KindObject:
		v.L = texts(norm.Entries)
	case api.KindCounter:
		v.N = total(norm.Entries)
	case api.KindRegister:
		v.S = latest(norm.Entries)
		fallthrough
	case api.KindFlag:
		v.B = len(norm.Entries) > 0
	case api.KindSet:
		v.L = elements(norm.Fields)
	case api.KindMap:
		v.Fields = named(norm.Fields)
	}
	return v
}

func texts(l []api.Entry) []string {
	var all []string
	for _, e := range l {
		all = append(all, e.S)
	}
	return all
}

// total wraps round, as a sum modulo 2^64 does.
func total(l []api.Entry) int64 {
	sum := int64(0)
	for _, e := range l {
		sum += e.N
	}
	return sum
}

// latest is the text of the greatest T; of several the last one's, so that all replicas choose the same.
func latest(l []api.Entry) string {
	var last api.Entry
	for _, e := range l {
		if e.T >= last.T {
			last = e
		}
	}
	return last.S
}

func elements(l []api.Field) []string {
	var all []string
	for _, f := range l {
		if f.Kind == kindElement {
			all = append(all, f.Name)
		}
	}
	return all
}

func named(l []api.Field) []api.Named {
	var all []api.Named
	for _, f := range l {
		if inMaps(f.Kind) {
			all = append(all, api.Named{Name: f.Name, Value: told(f.Kind, f.Store)})
		}
	}
	return all
}
