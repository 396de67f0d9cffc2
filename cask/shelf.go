package cask

import (
	"strconv"

	"murmuration/api"
	"murmuration/files"
)

// shelf is what a cask calls of its disk, by the numbers of its segments. The names are small, as a cask embeds it: none of them is to be handed out with the cask's own calls.
type shelf interface {
	origin() (*files.Disk, string)
	numbers() []int
	changes(segment int) ([]api.Change, api.Errno)
	lay(segment int, record string) api.Errno
	settle(segment int) api.Errno
}

// named is a disk's shelf for the segments of one name.
type named struct {
	*files.Disk
	name string
}

func (n named) origin() (*files.Disk, string) { return n.Disk, n.name }

// numbers rise as the files' names do: all have six digits.
func (n named) numbers() []int {
	var l []int
	prefix := n.name + "."
	for _, file := range n.List(prefix) {
		segment, err := strconv.Atoi(file[len(prefix):])
		if err == nil && File(n.name, segment) == file {
			l = append(l, segment)
		}
	}
	return l
}

func (n named) changes(segment int) ([]api.Change, api.Errno) {
	var l []api.Change
	s, e := n.Read(File(n.name, segment))
	if e == api.OK {
		l, _, e = Parse(s)
	}
	return l, e
}

func (n named) lay(segment int, record string) api.Errno {
	return n.Append(File(n.name, segment), record)
}

func (n named) settle(segment int) api.Errno { return n.Sync(File(n.name, segment)) }
