package files_test

import (
	"fmt"
	"math/rand"
	"sort"
	"strings"
	"testing"

	"murmuration/api"
	"murmuration/files"
)

// plain is a disk told once more, as the chapter's sentences go: a list of files, each of two texts.
type plain struct {
	files             []plainFile
	room, steps, goes int
	on                bool
}

type plainFile struct{ name, firm, loose string }

func (p *plain) at(name string) int {
	for i, f := range p.files {
		if f.name == name {
			return i
		}
	}
	return -1
}

func (p *plain) used() (n int) {
	for _, f := range p.files {
		n += len(f.firm + f.loose)
	}
	return n
}

func rightName(s string) bool {
	return len(s) >= 1 && len(s) <= 32 && strings.Trim(s, "abcdefghijklmnopqrstuvwxyz0123456789.-") == ""
}

// unarmed is below any number of steps that are to come ahead of the one in which the power goes.
const unarmed = -1

// step says whether the power stays.
func (p *plain) step() bool {
	p.steps++
	p.on = p.goes != 0
	p.goes = max(p.goes-1, unarmed)
	return p.on
}

func (p *plain) append(name string, parts []string) api.Errno {
	all := strings.Join(parts, "")
	i := p.at(name)
	switch {
	case !p.on:
		return api.ErrPower
	case !rightName(name):
		return api.ErrFile
	case i < 0 && len(p.files) == 256, p.used()+len(all) > p.room:
		return api.ErrFull
	case i < 0:
		i = len(p.files)
		p.files = append(p.files, plainFile{name: name})
	}
	p.files[i].loose += all
	if !p.step() {
		return api.ErrPower
	}
	return api.OK
}

func (p *plain) wrong(names ...string) api.Errno {
	if !p.on {
		return api.ErrPower
	}
	for _, name := range names {
		if !rightName(name) {
			return api.ErrFile
		}
	}
	if p.at(names[0]) < 0 {
		return api.ErrNone
	}
	return api.OK
}

func (p *plain) sync(name string) api.Errno {
	if e := p.wrong(name); e != api.OK {
		return e
	}
	if !p.step() {
		return api.ErrPower
	}
	f := &p.files[p.at(name)]
	f.firm, f.loose = f.firm+f.loose, ""
	return api.OK
}

func (p *plain) remove(name string) api.Errno {
	if e := p.wrong(name); e != api.OK {
		return e
	}
	if !p.step() {
		return api.ErrPower
	}
	i := p.at(name)
	p.files = append(p.files[:i], p.files[i+1:]...)
	return api.OK
}

func (p *plain) rename(from, to string) api.Errno {
	if e := p.wrong(from, to); e != api.OK {
		return e
	}
	if !p.step() {
		return api.ErrPower
	}
	f := p.files[p.at(from)]
	var left []plainFile
	for _, g := range p.files {
		if g.name != from && g.name != to {
			left = append(left, g)
		}
	}
	p.files = append(left, plainFile{to, f.firm, f.loose})
	return api.OK
}

func (p *plain) crash(picks []int) {
	sort.Slice(p.files, func(i, j int) bool { return p.files[i].name < p.files[j].name })
	for i := range p.files {
		f := &p.files[i]
		t := len(f.loose)
		if t == 0 {
			continue
		}
		pick := 0
		if len(picks) > 0 {
			pick = picks[0]
			picks = picks[1:]
		}
		if pick < 0 {
			pick = -(pick + 1)
		}
		f.firm, f.loose = f.firm+f.loose[:pick%(t+1)], ""
	}
	p.on, p.goes = true, unarmed
}

func (p *plain) picture() string {
	s := fmt.Sprint(p.on, p.used(), p.steps)
	if !p.on {
		return s
	}
	sort.Slice(p.files, func(i, j int) bool { return p.files[i].name < p.files[j].name })
	for _, f := range p.files {
		s += fmt.Sprintf(" %s=%q,0", f.name, f.firm+f.loose)
	}
	return s
}

// pair is a disk and its plain one; a call is made of both.
type pair struct {
	*testing.T
	draw *rand.Rand
	d    *files.Disk
	p    *plain
}

func (c pair) name() string {
	l := []string{"a", "b", "c", "a.new", "0", strings.Repeat("n", 32), "", "A", strings.Repeat("n", 33)}
	return l[c.draw.Intn(6+c.draw.Intn(4))]
}

func (c pair) names() []string {
	var l []string
	for range c.draw.Intn(4) {
		l = append(l, c.name())
	}
	return l
}

func (c pair) call() (what string, got, want api.Errno) {
	switch kind := c.draw.Intn(20); {
	case kind < 8:
		name, parts := c.name(), make([]string, c.draw.Intn(4))
		for i := range parts {
			parts[i] = strings.Repeat(string(rune('a'+c.draw.Intn(26))), c.draw.Intn(6))
		}
		return fmt.Sprintf("Append(%q, %q)", name, parts), c.d.Append(name, parts...), c.p.append(name, parts)
	case kind < 11:
		names := c.names()
		for _, name := range names {
			if want = c.p.sync(name); want != api.OK {
				break
			}
		}
		return fmt.Sprintf("Sync(%q)", names), c.d.Sync(names...), want
	case kind < 13:
		names := c.names()
		for _, name := range names {
			if want = c.p.remove(name); want != api.OK {
				break
			}
		}
		return fmt.Sprintf("Remove(%q)", names), c.d.Remove(names...), want
	case kind < 16:
		from, to := c.name(), c.name()
		return fmt.Sprintf("Rename(%q, %q)", from, to), c.d.Rename(from, to), c.p.rename(from, to)
	case kind < 17:
		room := c.draw.Intn(70) - 5
		c.d.Limit(room)
		c.p.room = max(room, 0)
		return fmt.Sprintf("Limit(%d)", room), 0, 0
	case kind < 18:
		steps := c.draw.Intn(7) - 2
		c.d.Arm(steps)
		c.p.goes = max(steps, unarmed)
		return fmt.Sprintf("Arm(%d)", steps), 0, 0
	}
	if c.d.On() && c.draw.Intn(4) > 0 {
		return "nothing", 0, 0
	}
	picks := make([]int, c.draw.Intn(6))
	for i := range picks {
		picks[i] = c.draw.Intn(41) - 20
	}
	c.d.Crash(picks...)
	c.p.crash(picks)
	return fmt.Sprintf("Crash(%d)", picks), 0, 0
}

func TestADiskIsAsThePlainOne(t *testing.T) {
	for seed := range 300 {
		c := pair{t, rand.New(rand.NewSource(int64(seed))), files.New(60), &plain{room: 60, goes: unarmed, on: true}}
		for i := range 200 {
			what, got, want := c.call()
			said(t, fmt.Sprintf("seed %d, call %d: %s", seed, i, what), got, want)
			if got, want := picture(c.d), c.p.picture(); got != want {
				t.Fatalf("seed %d, behind call %d: %s: %s, want %s", seed, i, what, got, want)
			}
		}
	}
}
