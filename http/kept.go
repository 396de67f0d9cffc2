package http

import (
	"bytes"
	"slices"
)

const mostKept = 65536

// kept are bytes that were fed and not told.
type kept struct{ fed []byte }

// add takes as many bytes as there is room for.
func (k *kept) add(data string) int {
	n := min(len(data), mostKept-len(k.fed))
	k.fed = append(k.fed, data[:n]...)
	return n
}

// let lets the first bytes go; what is kept behind them moves to the front, so that no room is lost to what is gone.
func (k *kept) let(n int) { k.fed = slices.Delete(k.fed, 0, n) }

// ahead is what stands from a place on ahead of the first end, most bytes at the most: whether that is there, or whether it can't come any more.
func (k *kept) ahead(from, most int, end string) (text string, there, never bool) {
	last := from + most + len(end)
	within := k.fed[from:min(last, len(k.fed))]
	size := bytes.Index(within, []byte(end))
	if size < 0 {
		return "", false, last <= len(k.fed)
	}
	return string(within[:size]), true, false
}
