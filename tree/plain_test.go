package tree_test

import (
	"crypto/sha256"
	"encoding/binary"
	"encoding/hex"
	"fmt"
	"maps"
	"slices"
	"strconv"
	"testing"

	"murmuration/api"
	"murmuration/tree"
)

func is(t *testing.T, what string, got, want any) {
	t.Helper()
	if g, w := fmt.Sprint(got), fmt.Sprint(want); g != w {
		t.Fatalf("%s: %s, want %s", what, g, w)
	}
}

// sum is another one for each text.
func sum(s string) [32]byte { return sha256.Sum256([]byte(s)) }

func digits(sum [32]byte) string { return hex.EncodeToString(sum[:]) }

// keyOf is the n-th of the numbers, in decimal digits, that are keys of a leaf.
func keyOf(leaf, n int) string {
	for i := 0; ; i++ {
		key := strconv.Itoa(i)
		if int(sum(key)[0]) != leaf {
			continue
		}
		if n == 0 {
			return key
		}
		n--
	}
}

// oddKeys are all texts of at most four of some bytes: among them those that are beginnings of others, and those that are no runes.
func oddKeys() []string {
	keys := []string{""}
	for from := 0; len(keys[len(keys)-1]) < 4; {
		till := len(keys)
		for _, key := range keys[from:till] {
			for _, b := range []byte{0x00, 'a', 0x7f, 0x80, 0xff} {
				keys = append(keys, key+string([]byte{b}))
			}
		}
		from = till
	}
	return keys
}

// plain is a tree by the chapter's words: its keys with their sums, and its leaves that are dirty. Each hash is reckoned anew.
type plain struct {
	sums  map[string][32]byte
	dirty map[int]bool
}

func newPlain() *plain { return &plain{map[string][32]byte{}, map[int]bool{}} }

func plainOf(sums map[string][32]byte) *plain {
	return &plain{sums: sums, dirty: map[int]bool{}}
}

func (p *plain) put(key string, s [32]byte) {
	if had, there := p.sums[key]; !there || had != s {
		p.dirty[int(sum(key)[0])] = true
	}
	p.sums[key] = s
}

func (p *plain) delete(keys ...string) {
	for _, key := range keys {
		if _, there := p.sums[key]; there {
			p.dirty[int(sum(key)[0])] = true
		}
		delete(p.sums, key)
	}
}

func (p *plain) keys(leaf int) []api.Sum {
	var l []api.Sum
	for _, key := range slices.Sorted(maps.Keys(p.sums)) {
		if int(sum(key)[0]) == leaf {
			l = append(l, api.Sum{Key: key, Sum: p.sums[key]})
		}
	}
	return l
}

// leaves are all leaves' hashes.
func (p *plain) leaves() [256][32]byte {
	var laid [256][]byte
	for _, key := range slices.Sorted(maps.Keys(p.sums)) {
		i, s := sum(key)[0], p.sums[key]
		laid[i] = binary.AppendUvarint(laid[i], uint64(len(key)))
		laid[i] = append(append(laid[i], key...), s[:]...)
	}
	var hashes [256][32]byte
	for i, b := range laid {
		if len(b) > 0 {
			hashes[i] = sha256.Sum256(b)
		}
	}
	return hashes
}

func joined(l [][32]byte) [32]byte {
	var b []byte
	for _, s := range l {
		b = append(b, s[:]...)
	}
	return sha256.Sum256(b)
}

func (p *plain) level(branches ...int) [][32]byte {
	p.dirty = map[int]bool{}
	var l [][32]byte
	leaves := p.leaves()
	for b := 0; b < 16 && len(branches) == 0; b++ {
		l = append(l, joined(leaves[16*b:16*b+16]))
	}
	for _, b := range branches {
		if b >= 0 && b <= 15 {
			l = append(l, leaves[16*b:16*b+16]...)
		}
	}
	return l
}

func (p *plain) root() [32]byte { return joined(p.level()) }

// holds tells whether a tree stands as p: first what asking leaves as it is, then the hashes.
func (p *plain) holds(t *testing.T, what string, got *tree.Tree) {
	t.Helper()
	is(t, what+": Len", got.Len(), len(p.sums))
	is(t, what+": Dirty", got.Dirty(), len(p.dirty))
	for leaf := range 256 {
		is(t, what+": Keys of "+strconv.Itoa(leaf), got.Keys(leaf), p.keys(leaf))
	}
	is(t, what+": Dirty behind Keys", got.Dirty(), len(p.dirty))
	is(t, what+": Root", digits(got.Root()), digits(p.root()))
	is(t, what+": Dirty behind Root", got.Dirty(), 0)
	is(t, what+": Level", got.Level(), p.level())
	for b := range 16 {
		is(t, what+": Level of "+strconv.Itoa(b), got.Level(b), p.level(b))
	}
}

// of is a tree with these sums.
func of(sums map[string][32]byte) *tree.Tree {
	t := tree.New()
	for key, s := range sums {
		t.Put(key, s)
	}
	return t
}

// numbered are the first n numbers as keys, with sums of their squares.
func numbered(n int) map[string][32]byte {
	sums := map[string][32]byte{}
	for i := range n {
		sums[strconv.Itoa(i)] = sum(strconv.Itoa(i * i))
	}
	return sums
}
