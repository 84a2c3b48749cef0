package model

import (
	"strings"

	"permafrost/api"
	"permafrost/path"
)

const (
	root = "/"
	top  = 0 // the number of `/`
)

// thing is what entries are of: a directory, or a file.
type thing struct {
	dir     bool
	entries map[string]int // of a directory: the things' numbers, by names
	text    string         // of a file: its bytes
	links   int            // of a file: how many entries it has
}

// spot is where an entry stands, or may stand.
type spot struct {
	entries map[string]int
	name    string
}

func newDir() *thing { return &thing{dir: true, entries: map[string]int{}} }

func (s spot) fill(n int) { s.entries[s.name] = n }

func (s spot) empty() { delete(s.entries, s.name) }

// lead tells the number of what a path leads to.
func (t *Tree) lead(p string) (int, api.Errno) {
	names, e := path.Split(p)
	if e != api.OK {
		return 0, e
	}
	n := top
	for _, name := range names {
		x := t.things[n]
		if !x.dir {
			return 0, api.ErrNotDir
		}
		next, is := x.entries[name]
		if !is {
			return 0, api.ErrNone
		}
		n = next
	}
	return n, api.OK
}

// file is lead, of a path that has to lead to a file.
func (t *Tree) file(p string) (int, api.Errno) {
	n, e := t.lead(p)
	if e == api.OK && t.things[n].dir {
		return 0, api.ErrDir
	}
	return n, e
}

// directory is lead, of a path that has to lead to a directory.
func (t *Tree) directory(p string) (int, api.Errno) {
	n, e := t.lead(p)
	if e == api.OK && !t.things[n].dir {
		return 0, api.ErrNotDir
	}
	return n, e
}

// free tells where the entry of a path may stand, that has to be free.
func (t *Tree) free(p string) (spot, api.Errno) {
	if p == root {
		return spot{}, api.ErrThere
	}
	up, name, e := path.Parent(p)
	if e != api.OK {
		return spot{}, e
	}
	dir, e := t.directory(up)
	if e != api.OK {
		return spot{}, e
	}
	entries := t.things[dir].entries
	if _, is := entries[name]; is {
		return spot{}, api.ErrThere
	}
	return spot{entries: entries, name: name}, api.OK
}

// spot tells where the entry of a path stands, that leads somewhere and is not
// `/`: so neither of the two below can refuse it.
func (t *Tree) spot(p string) spot {
	up, name, _ := path.Parent(p)
	dir, _ := t.lead(up)
	return spot{entries: t.things[dir].entries, name: name}
}

// add makes x a thing of the tree, with an entry that has to be free.
func (t *Tree) add(p string, x *thing) api.Answer {
	to, e := t.free(p)
	if e != api.OK {
		return refused(e)
	}
	t.last++
	t.things[t.last] = x
	to.fill(t.last)
	return api.Answer{}
}

// written tells text with data from off on.
func written(text string, off int, data string) string {
	if data == "" { // bytes 0 stand ahead of data alone: without any there are none
		return text
	}
	behind := ""
	if end := off + len(data); end < len(text) {
		behind = text[end:]
	}
	return sized(text, off) + data + behind
}

// sized tells the first n bytes of text, or text with bytes 0 behind it.
func sized(text string, n int) string {
	if n <= len(text) {
		return text[:n]
	}
	return text + strings.Repeat("\x00", n-len(text))
}
