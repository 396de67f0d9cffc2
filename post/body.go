package post

import (
	"murmuration/api"
	"murmuration/cell"
	"murmuration/gossip"
	"murmuration/pack"
)

// How many bytes a sum has, and the shortest ones of what lists have.
const (
	sumBytes   = 32
	leastPlace = 1
	leastText  = 1
	leastKey   = leastText + sumBytes
	leastCell  = 2 * leastText
)

// bodyOf and noteOf: a note as bytes, and back. noteOf has no error: whether the bytes are just those of the note is asked by laying it down again.
func bodyOf(n api.Note) string {
	w := &pack.Writer{}
	w.Int(int64(n.Kind), int64(n.Ask), int64(n.Partition)).Text(n.Key).Int(int64(n.Err))
	putCells(w, n.Cells...)
	w.Text(gossip.Bytes(n.Ring))
	putSwap(w, n.Swap)
	putParcel(w, n.Parcel)
	return w.Bytes()
}

func noteOf(body string) api.Note {
	r := pack.Read(body)
	return api.Note{
		Kind:      int(r.Int()),
		Ask:       int(r.Int()),
		Partition: int(r.Int()),
		Key:       r.Text(),
		Err:       api.Errno(r.Int()),
		Cells:     takenCells(r),
		Ring:      takenRing(r),
		Swap:      takenSwap(r),
		Parcel:    takenParcel(r),
	}
}

func putSwap(w *pack.Writer, m api.Swap) {
	w.Int(int64(m.Step))
	putAll(w, m.Places, func(place int) { w.Int(int64(place)) })
	putAll(w, m.Sums, func(sum [32]byte) { w.Raw(string(sum[:])) })
	putKeys(w, m.Keys)
	putCells(w, m.Cells...)
	putAll(w, m.Want, func(key string) { w.Text(key) })
}

func takenSwap(r *pack.Reader) api.Swap {
	return api.Swap{
		Step:   int(r.Int()),
		Places: takenAll(r, leastPlace, func() int { return int(r.Int()) }),
		Sums:   takenAll(r, sumBytes, func() [32]byte { return takenSum(r) }),
		Keys:   takenKeys(r),
		Cells:  takenCells(r),
		Want:   takenAll(r, leastText, r.Text),
	}
}

func putParcel(w *pack.Writer, p api.Parcel) {
	w.Int(int64(p.Partition), int64(p.Number)).Flag(p.Back)
	putCells(w, p.Cells...)
	putKeys(w, p.Sums)
}

func takenParcel(r *pack.Reader) api.Parcel {
	return api.Parcel{
		Partition: int(r.Int()),
		Number:    int(r.Int()),
		Back:      r.Flag(),
		Cells:     takenCells(r),
		Sums:      takenKeys(r),
	}
}

func putCells(w *pack.Writer, cells ...api.Keyed) {
	putAll(w, cells, func(k api.Keyed) { w.Text(k.Key, cell.Bytes(k.Cell)) })
}

// takenCells has an empty cell where the bytes are no cell's: of Kind 0, it is not right.
func takenCells(r *pack.Reader) []api.Keyed {
	return takenAll(r, leastCell, func() api.Keyed {
		key := r.Text()
		c, _ := cell.Read(r.Text())
		return api.Keyed{Key: key, Cell: c}
	})
}

// takenRing has an empty ring where the bytes are no ring's: it is laid down as other bytes than those.
func takenRing(r *pack.Reader) api.Ring {
	ring, _ := gossip.Read(r.Text())
	return ring
}

func putKeys(w *pack.Writer, keys []api.Sum) {
	putAll(w, keys, func(k api.Sum) { w.Text(k.Key).Raw(string(k.Sum[:])) })
}

func takenKeys(r *pack.Reader) []api.Sum {
	return takenAll(r, leastKey, func() api.Sum { return api.Sum{Key: r.Text(), Sum: takenSum(r)} })
}

func takenSum(r *pack.Reader) [32]byte {
	var sum [32]byte
	copy(sum[:], r.Raw(sumBytes))
	return sum
}

// putAll lays down how many there are, and each of them.
func putAll[T any](w *pack.Writer, l []T, put func(T)) {
	w.Num(uint64(len(l)))
	for _, x := range l {
		put(x)
	}
}

// takenAll takes up how many there are, of so many bytes each at least, and each of them.
func takenAll[T any](r *pack.Reader, least int, take func() T) []T {
	var l []T
	for range r.Many(least) {
		l = append(l, take())
	}
	return l
}
