package tree

import (
	"maps"
	"slices"

	"murmuration/api"
	"murmuration/pack"
	"murmuration/sha"
)

// width is how many leaves a branch has.
const width = api.Leaves / api.Branches

// leaf has its keys' sums.
type leaf map[string][32]byte

// rising is a leaf in the order in which it is told, and hashed.
func (l leaf) rising() []api.Sum {
	var told []api.Sum
	for _, key := range slices.Sorted(maps.Keys(l)) {
		told = append(told, api.Sum{Key: key, Sum: l[key]})
	}
	return told
}

func (l leaf) hash() [32]byte {
	if len(l) == 0 {
		return [32]byte{}
	}
	w := &pack.Writer{}
	for _, k := range l.rising() {
		w.Text(k.Key).Raw(string(k.Sum[:]))
	}
	return sha.Sum(w.Bytes())
}

// soil is for each change of a leaf: the hashes above it do not hold any more.
func (t *Tree) soil(leaf int) {
	t.dirty[leaf] = true
	t.joined[leaf/width] = false
}

// reckon goes over all leaves, whichever are asked for: behind each call that tells hashes none is dirty.
func (t *Tree) reckon() {
	for i, l := range t.leaves {
		if t.dirty[i] {
			t.sums[i], t.dirty[i] = l.hash(), false
		}
	}
	for i := range t.branches {
		if !t.joined[i] {
			t.branches[i], t.joined[i] = sha.Join(t.below(i)...), true
		}
	}
}

// below are the hashes of a branch's leaves, where they are kept: to be read alone.
func (t *Tree) below(branch int) [][32]byte {
	return t.sums[branch*width : branch*width+width]
}
