package pool

import (
	"cmp"
	"slices"

	"permafrost/api"
	"permafrost/fixed"
	"permafrost/ptr"
)

const mostName = 30 // bytes

// wide is the width of a load's numbers.
const wide = 1

// state is what a pool has, and a root's Load tells.
type state struct {
	root  string
	snaps []snap // by their names, rising; never written into
}

// snap is a root that stays.
type snap struct {
	name string
	root string
}

// load is a state as bytes.
func (s state) load() string {
	b := fixed.Text(s.root, wide) + fixed.Put(len(s.snaps), wide)
	for _, x := range s.snaps {
		b += fixed.Text(x.name, wide) + fixed.Text(x.root, wide)
	}
	return b
}

// stateOf tells the state that has that load.
func stateOf(load string) (state, bool) {
	r := fixed.Read(load)
	s := state{root: r.Text(wide)}
	for range r.Number(wide) {
		s.snaps = append(s.snaps, snap{name: r.Text(wide), root: r.Text(wide)})
	}
	if r.End() != api.OK || !s.mayBe() {
		return state{}, false
	}
	return s, true
}

func (s state) mayBe() bool {
	last := ""
	for _, x := range s.snaps {
		if !mayName(x.name) || x.name <= last {
			return false
		}
		last = x.name
	}
	return len(s.snaps) <= api.MaxSnaps && !slices.ContainsFunc(s.roots(), isNone)
}

// roots tells the root of the tree of files, and the snapshots'.
func (s state) roots() []string {
	l := []string{s.root}
	for _, x := range s.snaps {
		l = append(l, x.root)
	}
	return l
}

// find tells the place of the snapshot of that name, or where it would stand.
func (s state) find(name string) (int, bool) {
	return slices.BinarySearchFunc(s.snaps, name, func(x snap, name string) int { return cmp.Compare(x.name, name) })
}

// isNone tells what is no root: neither a pointer's text, nor the empty one.
func isNone(root string) bool {
	_, e := ptr.Decode(root)
	return root != "" && e != api.OK
}

func mayName(name string) bool { return name != "" && len(name) <= mostName }
