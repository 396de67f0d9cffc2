package vnode

import (
	"math"

	"murmuration/api"
	"murmuration/cell"
	"murmuration/pack"
)

// kept is what the cask has of a key: the epoch in which its dots are minted, 0 till one is, and the cell.
type kept struct {
	epoch uint64
	api.Cell
}

func (k kept) value() string {
	w := pack.Writer{}
	return w.Num(k.epoch).Text(cell.Bytes(k.Cell)).Bytes()
}

func parse(value string) (kept, api.Errno) {
	r := pack.Read(value)
	epoch := r.Num()
	c, e := cell.Read(r.Text())
	if r.Done() != api.OK || e != api.OK {
		return kept{}, api.ErrBroken
	}
	return kept{epoch, c}, api.OK
}

// plant has the tree speak of all keys, and all values be read once: no later call has to ask whether they are right.
func (v *Vnode) plant() api.Errno {
	for _, pair := range v.Cask.Fold() {
		k, e := parse(pair.Value)
		if e != api.OK {
			return e
		}
		v.tree.Put(pair.Key, cell.Sum(k.Cell))
	}
	return api.OK
}

func (v *Vnode) at(key string) (kept, bool) {
	value, e := v.Cask.Get(key)
	if e != api.OK {
		return kept{}, false
	}
	k, _ := parse(value)
	return k, true
}

func (v *Vnode) atOrNew(key string, kind int) kept {
	k, there := v.at(key)
	if !there {
		k.Cell = cell.New(kind)
	}
	return k
}

// epoch is one in which no dot was minted yet. An actor has 32 bits of it: a number beyond them would be that of an actor whose dots were told already.
func (v *Vnode) epoch() (uint64, api.Errno) {
	n, e := v.epochs.Next()
	if e == api.OK && n > math.MaxUint32 {
		return 0, api.ErrFull
	}
	return n, v.heed(e)
}

// put has the tree speak of what the cask has, whether that comes to be firm or not.
func (v *Vnode) put(key string, k kept) api.Errno {
	value := k.value()
	if len(value) > api.MaxValue {
		return api.ErrSize
	}
	if e := v.heed(v.Put(key, value)); e != api.OK {
		return e
	}
	v.tree.Put(key, cell.Sum(k.Cell))
	return api.OK
}

func (v *Vnode) settle() api.Errno { return v.heed(v.Sync()) }

// heed tells on what the disk has said. Behind any error but ErrFull nobody knows what lies there.
func (v *Vnode) heed(e api.Errno) api.Errno {
	if e != api.OK && e != api.ErrFull {
		v.broken = true
	}
	return e
}

// each goes on up to the first error. Those ahead of it are made firm all the same; whatever comes of that, the error was there first.
func each[T any](v *Vnode, do func(T) api.Errno, l ...T) api.Errno {
	if e := v.ready(); e != api.OK {
		return e
	}
	for _, x := range l {
		if e := do(x); e != api.OK {
			v.settle()
			return e
		}
	}
	return v.settle()
}
