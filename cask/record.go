package cask

import (
	"strconv"
	"strings"

	"murmuration/api"
	"murmuration/pack"
)

const (
	mostName    = 20     // bytes of a cask's name
	mostSegment = 999999 // the greatest number that has six digits
)

// File is a segment's name; Record is a record's bytes; Parse are those of a text.
func File(name string, segment int) string {
	if !isName(name) || segment < 1 || segment > mostSegment {
		return ""
	}
	// One digit more ahead, and off again: the zeros that come first stay.
	return name + "." + strconv.Itoa(mostSegment + 1 + segment)[1:]
}

func Record(key, value string, dead bool) (string, api.Errno) {
	if e := fits(key, value); e != api.OK {
		return "", e
	}
	w := pack.Writer{}
	w.Text(key).Flag(dead)
	if !dead {
		w.Text(value)
	}
	return pack.Frame(w.Bytes())
}

// Parse tells the records ahead of an error too, whichever it is.
func Parse(s string) ([]api.Change, int, api.Errno) {
	var changes []api.Change
	size := 0
	for size < len(s) {
		change, n, e := first(s[size:])
		if e != api.OK {
			return changes, size, e
		}
		changes = append(changes, change)
		size += n
	}
	return changes, size, api.OK
}

// first is strict: a body that Record would not make is no record's.
func first(s string) (api.Change, int, api.Errno) {
	body, size, e := pack.Unframe(s)
	if e != api.OK {
		return api.Change{}, 0, e
	}
	r := pack.Read(body)
	change := api.Change{Key: r.Text()}
	change.Dead = r.Flag()
	if !change.Dead {
		change.Value = r.Text()
	}
	// A body that ends too early stands in a whole frame: no crash has left it, so it is no ErrShort.
	if r.Done() != api.OK || fits(change.Key, change.Value) != api.OK {
		return api.Change{}, 0, api.ErrForm
	}
	return change, size, api.OK
}

func fits(key, value string) api.Errno {
	switch {
	case key == "":
		return api.ErrArg
	case len(key) > api.MaxKey || len(value) > api.MaxValue:
		return api.ErrSize
	}
	return api.OK
}

func isName(s string) bool {
	return s != "" && len(s) <= mostName && !strings.ContainsFunc(s, notInNames)
}

func notInNames(r rune) bool {
	return !('a' <= r && r <= 'z' || '0' <= r && r <= '9' || r == '-')
}
