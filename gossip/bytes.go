package gossip

import (
	"murmuration/api"
	"murmuration/pack"
)

// leastMember is how many bytes a member has at least: one each for its node, its state and its V.
const leastMember = 3

// Bytes and Read: a ring as bytes, and back.
func Bytes(r api.Ring) string {
	r = Norm(r)
	w := pack.Writer{}
	w.Num(uint64(len(r.Members)))
	for _, m := range r.Members {
		w.Int(int64(m.Node), int64(m.State)).Num(m.V)
	}
	for _, owner := range r.Owners {
		w.Int(int64(owner.Node)).Num(owner.V)
	}
	return w.Bytes()
}

// Read lays down again what it took up: only the bytes of a Norm come out as they were.
func Read(s string) (api.Ring, api.Errno) {
	var r api.Ring
	from := pack.Read(s)
	for range from.Many(leastMember) {
		r.Members = append(r.Members, api.Member{Node: int(from.Int()), State: int(from.Int()), V: from.Num()})
	}
	for p := range r.Owners {
		r.Owners[p] = api.Owner{Node: int(from.Int()), V: from.Num()}
	}
	if Bytes(r) != s {
		return api.Ring{}, api.ErrForm
	}
	return r, api.OK
}
