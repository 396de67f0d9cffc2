package cell

import (
	"murmuration/api"
	"murmuration/clock"
	"murmuration/pack"
	"murmuration/sha"
	"murmuration/store"
)

// leastDot is how many bytes the shortest dot has.
const leastDot = 2

// Bytes and Read: a cell as bytes, and back; Sum is that of its bytes.
func Bytes(c api.Cell) string {
	w := &pack.Writer{}
	w.Int(int64(c.Kind)).Raw(clock.Bytes(c.Clock))
	store.Write(w, c.Store)
	return w.Bytes()
}

// Read asks for no error of the reader's: what it has read, written again, is s only if s is a cell's from end to end.
func Read(s string) (api.Cell, api.Errno) {
	r := pack.Read(s)
	c := api.Cell{Kind: int(r.Int()), Clock: readClock(r), Store: store.Read(r)}
	if Bytes(c) != s || !Right(c) {
		return api.Cell{}, api.ErrForm
	}
	return c, api.OK
}

func Sum(c api.Cell) [32]byte { return sha.Sum(Bytes(c)) }

// readClock stands here as clock.Read takes a clock's bytes alone, with none behind them.
func readClock(r *pack.Reader) api.Clock {
	var c api.Clock
	for range r.Many(leastDot) {
		c = append(c, api.Dot{Actor: r.Num(), N: r.Num()})
	}
	return c
}
