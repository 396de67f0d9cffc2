package squash

import (
	"murmuration/api"
	"murmuration/files"
)

// behind a file's name stands this, while the next one is on its way.
const behind = ".new"

// renew gives a file other bytes, under another name first: wherever the power goes, it is the old one whole or the new one whole.
func renew(d *files.Disk, name string, parts ...string) api.Errno {
	coming := name + behind
	return inOrder(
		func() api.Errno { return unlessNone(d.Remove(coming)) },
		func() api.Errno { return d.Append(coming, parts...) },
		func() api.Errno { return d.Sync(coming) },
		func() api.Errno { return d.Rename(coming, name) },
	)
}

// inOrder does step by step, up to the first error.
func inOrder(steps ...func() api.Errno) api.Errno {
	for _, step := range steps {
		if e := step(); e != api.OK {
			return e
		}
	}
	return api.OK
}

func unlessNone(e api.Errno) api.Errno {
	if e == api.ErrNone {
		return api.OK
	}
	return e
}
