package fsys

import (
	"strconv"
	"strings"

	"permafrost/api"
	"permafrost/node"
	"permafrost/store"
)

// refBytes is how long a store's refs are at most. A draft's are as long, so
// that a node always has room for those that come in their place.
const refBytes = 47

// draft is a tree's store that puts no node till the whole change is made. An op
// changes several pairs, and each makes the nodes above it anew: only what the
// last root leads to is needed, and what else were put would take room.
type draft struct {
	blocks *store.Store
	sheets map[string]sheet // by their refs
}

// sheet is a node's text that is not put.
type sheet struct {
	text string
}

func newDraft(s *store.Store) *draft { return &draft{blocks: s, sheets: map[string]sheet{}} }

// Get tells the text of a sheet, or of a block.
func (d *draft) Get(ref string) (string, api.Errno) {
	if x, is := d.sheets[ref]; is {
		return x.text, api.OK
	}
	return d.blocks.Get(ref)
}

// Put keeps a sheet. Its ref begins with a byte 0, as no pointer's text does.
func (d *draft) Put(text string) (string, api.Errno) {
	digits := strconv.Itoa(len(d.sheets))
	ref := strings.Repeat("\x00", refBytes-len(digits)) + digits
	d.sheets[ref] = sheet{text}
	return ref, api.OK
}

// settle puts the sheets that ref leads to, and tells the ref that comes in its
// place: of what is put already that is itself. Each sheet is put once, so that
// this ends for any nodes.
func (d *draft) settle(ref string) string {
	x, is := d.sheets[ref]
	if !is {
		return ref
	}
	delete(d.sheets, ref)
	n := must(node.Decode(x.text))
	if !n.Leaf {
		for i, below := range n.Vals {
			n.Vals[i] = d.settle(below)
		}
	}
	return must(d.blocks.Put(must(node.Encode(n))))
}
