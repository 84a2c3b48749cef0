package fsys

import (
	"math"
	"strconv"

	"permafrost/api"
	"permafrost/inode"
	"permafrost/path"
	"permafrost/store"
	"permafrost/tree"
)

const (
	root  = "/"
	top   = 0      // the number of `/`
	least = "\x01" // the least name
)

// kindChunk is what inode.Which tells of a chunk's key.
const kindChunk = 2

// files is a tree of files, and what becomes of it.
type files struct {
	blocks *store.Store
	nodes  *draft
	root   string
}

// thing is a directory, or a file, and its number.
type thing struct {
	number int
	inode.Inode
}

// spot is where an entry stands, or may stand.
type spot struct {
	dir  int
	name string
}

func (p spot) key() string { return inode.Entry(p.dir, p.name) }

// open panics, as where a block can't be read, where there is no store, or one
// that has no devices.
func open(s *store.Store, root string) *files {
	if s.Devs() == nil {
		panic(api.ErrArg)
	}
	return &files{blocks: s, nodes: newDraft(s), root: root}
}

// settle puts the nodes of what became of the tree, and tells its root.
func (f *files) settle() string { return f.nodes.settle(f.root) }

// get tells what goes with key.
func (f *files) get(key string) (string, bool) {
	val, e := tree.Get(f.nodes, f.root, key)
	if e == api.ErrNone {
		return "", false
	}
	return must(val, e), true
}

func (f *files) has(key string) bool {
	_, is := f.get(key)
	return is
}

func (f *files) put(key string, val string) {
	f.root = must(tree.Put(f.nodes, f.root, key, val))
}

// drop leaves the tree as it is, where there is no such key.
func (f *files) drop(key string) {
	next, e := tree.Delete(f.nodes, f.root, key)
	if e != api.ErrNone {
		f.root = must(next, e)
	}
}

// thing tells what has that number. Only where `/` has entries it has an inode.
func (f *files) thing(number int) thing {
	val, is := f.get(inode.Key(number))
	if !is && number == top {
		return thing{top, inode.Inode{Dir: true}}
	}
	x := must(inode.Decode(val))
	if !x.Dir && x.Size > api.MaxFile {
		panic(api.ErrForm)
	}
	return thing{number, x}
}

// note keeps a thing's inode; `/` without entries has none, as the empty root tells it.
func (f *files) note(x thing) {
	if x.number == top && x.Size == 0 {
		f.drop(inode.Key(top))
		return
	}
	f.put(inode.Key(x.number), must(inode.Encode(x.Inode)))
}

// lead tells what a path leads to.
func (f *files) lead(p string) (thing, api.Errno) {
	names, e := path.Split(p)
	if e != api.OK {
		return thing{}, e
	}
	x := f.thing(top)
	for _, name := range names {
		if !x.Dir {
			return thing{}, api.ErrNotDir
		}
		val, is := f.get(inode.Entry(x.number, name))
		if !is {
			return thing{}, api.ErrNone
		}
		x = f.thing(numberOf(val))
	}
	return x, api.OK
}

// file is lead, of a path that has to lead to a file.
func (f *files) file(p string) (thing, api.Errno) {
	x, e := f.lead(p)
	if e == api.OK && x.Dir {
		return thing{}, api.ErrDir
	}
	return x, e
}

// directory is lead, of a path that has to lead to a directory.
func (f *files) directory(p string) (thing, api.Errno) {
	x, e := f.lead(p)
	if e == api.OK && !x.Dir {
		return thing{}, api.ErrNotDir
	}
	return x, e
}

// free tells where the entry of a path may stand, that has to be free.
func (f *files) free(p string) (spot, api.Errno) {
	if p == root {
		return spot{}, api.ErrThere
	}
	up, name, e := path.Parent(p)
	if e != api.OK {
		return spot{}, e
	}
	dir, e := f.directory(up)
	if e != api.OK {
		return spot{}, e
	}
	to := spot{dir.number, name}
	if f.has(to.key()) {
		return spot{}, api.ErrThere
	}
	return to, api.OK
}

// spot tells where the entry of a path stands, that leads somewhere and is not
// `/`: so neither of the two below can refuse it.
func (f *files) spot(p string) spot {
	up, name, _ := path.Parent(p)
	dir, _ := f.lead(up)
	return spot{dir.number, name}
}

// fill has an entry stand at to.
func (f *files) fill(to spot, number int) {
	f.put(to.key(), strconv.Itoa(number))
	f.count(to.dir, 1)
}

// empty has no entry stand at from.
func (f *files) empty(from spot) {
	f.drop(from.key())
	f.count(from.dir, -1)
}

// count notes how many entries more a directory has. It asks for the inode anew:
// an entry may have left the directory that another one comes to.
func (f *files) count(dir int, more int) {
	x := f.thing(dir)
	x.Size += more
	f.note(x)
}

// add makes a thing of the tree, with an entry that has to be free.
func (f *files) add(p string, i inode.Inode) api.Answer {
	to, e := f.free(p)
	if e != api.OK {
		return refused(e)
	}
	i.Links = 1
	x := thing{f.unused(), i}
	f.note(x)
	f.fill(to, x.number)
	return api.Answer{}
}

// unused tells a number that nothing has. It draws two numbers together, of
// which something has the less one and nothing the greater one, so that few of
// all that there are are asked for.
func (f *files) unused() int {
	had, free := top, top+1
	for f.has(inode.Key(free)) {
		had, free = free, 2*free
	}
	for free-had > 1 {
		between := (had + free) / 2
		if f.has(inode.Key(between)) {
			had = between
		} else {
			free = between
		}
	}
	return free
}

// names tells the names of a directory's entries, which stand side by side.
func (f *files) names(dir thing) []string {
	var l []string
	for _, p := range f.scan(inode.Entry(dir.number, least), dir.Size) {
		_, _, name, _ := inode.Which(p.Key)
		l = append(l, name)
	}
	return l
}

// refs tells the refs of all nodes, and of all chunks.
func (f *files) refs() []string {
	l := must(tree.Refs(f.nodes, f.root))
	for _, p := range f.scan(inode.Chunk(0, 0), math.MaxInt) {
		if kind, _, _, _ := inode.Which(p.Key); kind == kindChunk {
			l = append(l, p.Val)
		}
	}
	return l
}

func (f *files) scan(from string, many int) []tree.Pair {
	return must(tree.Scan(f.nodes, f.root, from, many))
}

// numberOf tells the number of what an entry is of.
func numberOf(val string) int {
	n, err := strconv.Atoi(val)
	if err != nil {
		panic(api.ErrForm)
	}
	return n
}
