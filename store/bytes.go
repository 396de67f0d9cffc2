package store

import (
	"murmuration/api"
	"murmuration/pack"
)

// leastEntry and leastField are how many bytes the shortest ones have.
const (
	leastEntry = 5
	leastField = 4
)

// Write lays a store down; Read takes one up.
func Write(w *pack.Writer, s api.Store) { write(w, Norm(s)) }

// Read looks for the Norm last: bytes that end too early are ErrShort, whatever is ahead of their end.
func Read(r *pack.Reader) api.Store {
	s := read(r, api.MaxDeep)
	if !equal(s, Norm(s)) {
		r.Fail(api.ErrForm)
	}
	if failed(r) {
		return api.Store{}
	}
	return s
}

func write(w *pack.Writer, norm api.Store) {
	w.Num(uint64(len(norm.Entries)))
	for _, e := range norm.Entries {
		w.Num(e.Dot.Actor, e.Dot.N).Int(e.N).Text(e.S).Num(e.T)
	}
	w.Num(uint64(len(norm.Fields)))
	for _, f := range norm.Fields {
		w.Int(int64(f.Kind)).Text(f.Name)
		write(w, f.Store)
	}
}

// read fails at the first field that is too deep, rather than go as deep as the bytes say.
func read(r *pack.Reader, deep int) api.Store {
	var s api.Store
	if deep < 0 {
		r.Fail(api.ErrForm)
		return s
	}
	for range r.Many(leastEntry) {
		dot := api.Dot{Actor: r.Num(), N: r.Num()}
		s.Entries = append(s.Entries, api.Entry{Dot: dot, N: r.Int(), S: r.Text(), T: r.Num()})
	}
	for range r.Many(leastField) {
		s.Fields = append(s.Fields, api.Field{Kind: int(r.Int()), Name: r.Text(), Store: read(r, deep-1)})
	}
	return s
}

// failed asks Left, too, as Done tells an error of bytes that are merely left for others.
func failed(r *pack.Reader) bool { return r.Left() == 0 && r.Done() != api.OK }
