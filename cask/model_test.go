package cask_test

import (
	"fmt"
	"math/rand"
	"slices"
	"strings"
	"testing"

	"murmuration/api"
	"murmuration/cask"
	"murmuration/files"
)

// plain is a cask told once more: all records one behind another, gone through at each call, on a disk of its own.
type plain struct {
	d        *files.Disk
	name     string
	log      []api.Change
	segments []int
	begun    bool // since it was opened?
	size     int  // of the newest one, if it was begun
	synced   bool
	broken   bool
}

func openPlain(d *files.Disk, name string) (*plain, api.Errno) {
	if !d.On() {
		return nil, api.ErrPower
	}
	p := &plain{d: d, name: name, synced: true}
	for segment := 1; segment < 1000; segment++ {
		s, e := d.Read(fmt.Sprintf("%s.%06d", name, segment))
		if e != api.OK {
			continue
		}
		l, _, e := cask.Parse(s)
		if e != api.OK && e != api.ErrShort {
			return nil, api.ErrBroken
		}
		p.log = append(p.log, l...)
		p.segments = append(p.segments, segment)
	}
	if len(p.segments) > 0 {
		if e := d.Sync(p.file()); e != api.OK {
			return nil, e
		}
	}
	return p, api.OK
}

// file is the newest one's name.
func (p *plain) file() string {
	return fmt.Sprintf("%s.%06d", p.name, p.segments[len(p.segments)-1])
}

func (p *plain) fails(e api.Errno) api.Errno {
	if e != api.OK && e != api.ErrFull {
		p.broken = true
	}
	return e
}

// last is a key's last record.
func (p *plain) last(key string) (api.Change, bool) {
	for i := len(p.log) - 1; i >= 0; i-- {
		if p.log[i].Key == key {
			return p.log[i], !p.log[i].Dead
		}
	}
	return api.Change{}, false
}

func (p *plain) change(c api.Change) api.Errno {
	record := put(c.Key, c.Value)
	switch {
	case c.Key == "":
		return api.ErrArg
	case len(c.Key) > 255 || len(c.Value) > 60000:
		return api.ErrSize
	case c.Dead:
		record = gone(c.Key)
	}
	if p.begun && p.size < 4096 {
		if e := p.fails(p.d.Append(p.file(), record)); e != api.OK {
			return e
		}
	} else {
		if e := p.sync(); e != api.OK {
			return e
		}
		segment := 1
		if n := len(p.segments); n > 0 {
			segment = p.segments[n-1] + 1
		}
		if e := p.fails(p.d.Append(fmt.Sprintf("%s.%06d", p.name, segment), record)); e != api.OK {
			return e
		}
		p.segments, p.begun, p.size = append(p.segments, segment), true, 0
	}
	p.size += len(record)
	p.synced = false
	p.log = append(p.log, c)
	return api.OK
}

func (p *plain) remove(keys []string) api.Errno {
	for _, key := range keys {
		if _, there := p.last(key); !there {
			return api.ErrNone
		}
		if e := p.change(api.Change{Key: key, Dead: true}); e != api.OK {
			return e
		}
	}
	return api.OK
}

func (p *plain) sync() api.Errno {
	if p.synced {
		return api.OK
	}
	e := p.fails(p.d.Sync(p.file()))
	p.synced = e == api.OK
	return e
}

func (p *plain) reopen() api.Errno {
	anew, e := openPlain(p.d, p.name)
	if e != api.OK {
		return p.fails(e)
	}
	*p = *anew
	return api.OK
}

func (p *plain) get(key string) (string, api.Errno) {
	c, there := p.last(key)
	switch {
	case p.broken:
		return "", api.ErrBroken
	case !there:
		return "", api.ErrNone
	}
	return c.Value, api.OK
}

// picture is what that of a cask is to be.
func (p *plain) picture() string {
	var pairs []api.Pair
	live := 0
	for i, c := range p.log {
		last := !slices.ContainsFunc(p.log[i+1:], func(later api.Change) bool { return later.Key == c.Key })
		if last && !c.Dead {
			live++
			pairs = append(pairs, api.Pair{Key: c.Key, Value: c.Value})
		}
	}
	slices.SortFunc(pairs, func(a, b api.Pair) int { return strings.Compare(a.Key, b.Key) })
	return fmt.Sprintf("%q %d %d %d %v %s", pairs, len(pairs), p.segments, len(p.log)-live, p.broken, p.name)
}

// twins are a cask and a plain one, to which the same is done.
type twins struct {
	t    *testing.T
	draw *rand.Rand
	c    *cask.Cask
	d    *files.Disk
	p    *plain
}

func (w *twins) key() string {
	return []string{"a", "b", "c", "dd", "", "\xff", strings.Repeat("k", 255), strings.Repeat("k", 256)}[min(w.draw.Intn(10), 7)]
}

func (w *twins) value() string {
	size := w.draw.Intn(20)
	switch w.draw.Intn(12) {
	case 0:
		size = 60000 + w.draw.Intn(2)
	case 1, 2, 3:
		size = w.draw.Intn(3000)
	}
	return strings.Repeat("v", size) + fmt.Sprint(w.draw.Intn(10))[min(1, size/60000):]
}

func (w *twins) unless(do func() api.Errno) api.Errno {
	if w.p.broken {
		return api.ErrBroken
	}
	return do()
}

// call draws one, and tells what both say.
func (w *twins) call() (what string, got, want api.Errno) {
	switch kind := w.draw.Intn(24); {
	case kind < 10:
		key, value := w.key(), w.value()
		return fmt.Sprintf("Put(%.10q, %d bytes)", key, len(value)), w.c.Put(key, value), w.unless(func() api.Errno { return w.p.change(api.Change{Key: key, Value: value}) })
	case kind < 14:
		keys := make([]string, w.draw.Intn(4))
		for i := range keys {
			keys[i] = w.key()
		}
		return fmt.Sprintf("Delete(%.10q)", keys), w.c.Delete(keys...), w.unless(func() api.Errno { return w.p.remove(keys) })
	case kind < 17:
		return "Sync", w.c.Sync(), w.unless(w.p.sync)
	case kind < 18:
		return "Reopen", w.c.Reopen(), w.unless(w.p.reopen)
	case kind < 19:
		room := w.draw.Intn(100000)
		w.d.Limit(room)
		w.p.d.Limit(room)
		return fmt.Sprintf("Limit(%d)", room), 0, 0
	case kind < 20:
		steps := w.draw.Intn(20) - 2
		w.d.Arm(steps)
		w.p.d.Arm(steps)
		return fmt.Sprintf("Arm(%d)", steps), 0, 0
	case kind < 22 || !w.p.broken:
		key := w.key()
		value, got := w.c.Get(key)
		wanted, want := w.p.get(key)
		if value != wanted {
			w.t.Errorf("Get(%.10q): %d bytes, want %d", key, len(value), len(wanted))
		}
		return fmt.Sprintf("Get(%.10q)", key), got, want
	}
	return w.open()
}

func (w *twins) open() (what string, got, want api.Errno) {
	pick := w.draw.Intn(9000)
	if w.draw.Intn(4) > 0 {
		w.d.Crash(pick)
		w.p.d.Crash(pick)
	}
	c, got := cask.Open(w.d, "v1")
	p, want := openPlain(w.p.d, "v1")
	if got == api.OK && want == api.OK {
		w.c, w.p = c, p
	}
	return "Open", got, want
}

func TestACaskIsAsThePlainOne(t *testing.T) {
	for seed := range 120 {
		d, twin := files.New(300000), files.New(300000)
		c, p := opened(t, d, "v1"), &plain{d: twin, name: "v1", synced: true}
		w := &twins{t, rand.New(rand.NewSource(int64(seed))), c, d, p}
		for i := range 60 {
			what, got, want := w.call()
			said(t, fmt.Sprintf("seed %d, call %d: %s", seed, i, what), got, want)
			if got, want := picture(w.c), w.p.picture(); got != want {
				t.Fatalf("seed %d, behind call %d: %s: %.300s, want %.300s", seed, i, what, got, want)
			}
			if got, want := onDisk(w.d), onDisk(w.p.d); got != want {
				t.Fatalf("seed %d, behind call %d: %s: the disk is another one: %.300s, want %.300s", seed, i, what, got, want)
			}
		}
	}
}
