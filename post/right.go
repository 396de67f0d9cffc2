package post

import (
	"slices"

	"murmuration/api"
	"murmuration/cell"
	"murmuration/gossip"
)

// beside is what of a note doesn't belong to its Kind; false: there is no such Kind.
func beside(n api.Note) (api.Note, bool) {
	switch n.Kind {
	case api.NoteAsk:
		n.Ask, n.Partition, n.Key = 0, 0, ""
	case api.NoteTell:
		n.Ask, n.Partition, n.Key, n.Err, n.Cells = 0, 0, "", api.OK, nil
	case api.NoteGive:
		n.Ask, n.Partition, n.Key, n.Cells = 0, 0, "", nil
	case api.NoteTook:
		n.Ask, n.Partition, n.Key, n.Err = 0, 0, "", api.OK
	case api.NoteRing:
		n.Ring = api.Ring{}
	case api.NoteSwap:
		n.Partition, n.Swap = 0, api.Swap{}
	case api.NoteParcel:
		n.Parcel = api.Parcel{}
	default:
		return api.Note{}, false
	}
	n.Kind = 0
	return n, true
}

// isEnough leaves the other Kinds out: to them no cells belong.
func isEnough(n api.Note) bool {
	switch n.Kind {
	case api.NoteTell:
		return len(n.Cells) <= 1
	case api.NoteGive:
		return len(n.Cells) == 1
	}
	return true
}

func isPartition(p int) bool { return p >= 0 && p < api.Partitions }

// isNorm takes a ring as it stands, as gossip.Same takes both as their Norm.
func isNorm(r api.Ring) bool {
	norm := gossip.Norm(r)
	return r.Owners == norm.Owners && slices.Equal(r.Members, norm.Members)
}

func areRight(cells ...api.Keyed) bool {
	for _, k := range cells {
		if !cell.Right(k.Cell) {
			return false
		}
	}
	return true
}
