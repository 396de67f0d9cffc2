package squash

import (
	"math"

	"murmuration/api"
	"murmuration/files"
	"murmuration/pack"
)

// more is by how many numbers a lease grows.
const more = 100

// Counter gives numbers that are never given again.
type Counter struct {
	lease
	disk   *files.Disk
	file   string
	given  uint64 // the last number that was told, or that another counter may have told
	broken bool
}

// NewCounter is one on a disk; Next is the next number; Leased is up to which they may have been given.
func NewCounter(d *files.Disk, name string) (*Counter, api.Errno) {
	if !named(d, name) {
		return nil, api.ErrArg
	}
	n := &Counter{disk: d, file: name + ".count"}
	var e api.Errno
	if n.lease, e = leaseIn(d, n.file); e != api.OK {
		return nil, e
	}
	n.given = n.last
	return n, api.OK
}

func (n *Counter) Next() (uint64, api.Errno) {
	switch {
	case n == nil || n.disk == nil:
		return 0, api.ErrArg
	case n.broken:
		return 0, api.ErrBroken
	}
	if n.given == n.last {
		if e := n.extend(); e != api.OK {
			return 0, e
		}
	}
	n.given++
	return n.given, api.OK
}

func (n *Counter) Leased() uint64 {
	if n == nil {
		return 0
	}
	return n.last
}

// extend looks at the file again: somebody else may have opened the counter, too, and have told numbers of a lease behind this one.
func (n *Counter) extend() api.Errno {
	there, _ := leaseIn(n.disk, n.file)
	given := max(n.last, there.last)
	// Beyond the greatest number they would begin anew: there is no room for a lease any more.
	if given > math.MaxUint64-more {
		return api.ErrFull
	}
	next := lease{given + more}
	if e := renew(n.disk, n.file, next.bytes()); e != api.OK {
		n.broken = e != api.ErrFull
		return e
	}
	n.lease, n.given = next, given
	return api.OK
}

// lease is a number up to which all may have been given.
type lease struct{ last uint64 }

// leaseIn is that of a counter's file; none was given without one.
func leaseIn(d *files.Disk, file string) (lease, api.Errno) {
	s, e := d.Read(file)
	switch e {
	case api.OK:
		return parse(s)
	case api.ErrNone:
		return lease{}, api.OK
	}
	return lease{}, e
}

func parse(s string) (lease, api.Errno) {
	body, size, e := pack.Unframe(s)
	r := pack.Read(body)
	l := lease{r.Num()}
	if e != api.OK || size != len(s) || r.Done() != api.OK {
		return lease{}, api.ErrBroken
	}
	return l, api.OK
}

// bytes are short: no frame of a number says an error.
func (l lease) bytes() string {
	w := pack.Writer{}
	s, _ := pack.Frame(w.Num(l.last).Bytes())
	return s
}
