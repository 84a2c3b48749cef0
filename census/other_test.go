package census

import (
	"fmt"
	"strings"
	"testing"

	"permafrost/api"
	"permafrost/dev"
	"permafrost/fixed"
	"permafrost/inode"
	"permafrost/node"
	"permafrost/pool"
	"permafrost/uber"
)

// other is a pool with a root that no call made: a leaf of these pairs.
func other(t *testing.T, pairs map[string]string) *pool.Pool {
	t.Helper()
	d := dev.New(100, 100)
	x := made(t, d, api.Policy{})
	n := node.Node{Leaf: true}
	for key, val := range pairs {
		n = node.With(n, key, val)
	}
	bytes, e := node.Encode(n)
	ok(t, e)
	ref, e := x.Store().Put(bytes)
	ok(t, e)
	d.Flush()
	ok(t, uber.Write(d, uber.Uber{Txg: 2, Load: fixed.Text(ref, 1) + "\x00"}))
	return mount(t, d, api.Policy{})
}

func packed(t *testing.T, i inode.Inode) string {
	t.Helper()
	s, e := inode.Encode(i)
	ok(t, e)
	return s
}

// R1: directories that stand within themselves have no end of paths.
func TestPathsWithoutEnd(t *testing.T) {
	dir := func(size int) string { return packed(t, inode.Inode{Dir: true, Size: size, Links: 1}) }
	twice := map[string]string{inode.Key(0): dir(2)}
	for i := range 20 { // a million paths
		twice[inode.Entry(i, "a")], twice[inode.Entry(i, "b")] = fmt.Sprint(i+1), fmt.Sprint(i+1)
		twice[inode.Key(i)] = dir(2)
	}
	twice[inode.Key(20)] = dir(0)
	for i, c := range []map[string]string{
		{inode.Key(0): dir(1), inode.Entry(0, "l"): "0"},
		{inode.Key(0): dir(1), inode.Entry(0, strings.Repeat("l", 255)): "0"},
		{inode.Key(0): dir(2), inode.Entry(0, "a"): "0", inode.Entry(0, "b"): "0"},
		{inode.Key(0): dir(2), inode.Entry(0, "d"): "1", inode.Entry(0, "f"): "2", inode.Key(1): dir(1), inode.Key(2): packed(t, inode.Inode{Links: 1}), inode.Entry(1, "up"): "0"},
		twice,
	} {
		if l, e := Paths(other(t, c)); len(l) > 0 || e != api.ErrForm {
			t.Errorf("%d: %d paths, %d", i, len(l), e)
		}
	}
}

// R1: a chunk's ref that is no pointer's text.
func TestOtherRefs(t *testing.T) {
	for i, ref := range []string{"", "junk", strings.Repeat("x", 44)} {
		x := other(t, map[string]string{
			inode.Key(0): packed(t, inode.Inode{Dir: true, Size: 1, Links: 1}), inode.Entry(0, "f"): "1",
			inode.Key(1): packed(t, inode.Inode{Size: 9, Links: 1}), inode.Chunk(1, 0): ref,
		})
		blocks(t, x, Count{All: 2, Slow: 1})
		scrub(t, x, 2, 0, 0)
		paths(t, x, "/", "/f")
		needs(t, x, false)
		if i == 0 {
			needs(t, x, true, api.Loc{Dev: 0, At: 4}) // the leaf
		}
	}
}

// R1: trees that tell what may not be.
func TestOtherTrees(t *testing.T) {
	dir := func(size int) string { return packed(t, inode.Inode{Dir: true, Size: size, Links: 1}) }
	for i, c := range []map[string]string{
		{inode.Key(0): "junk"},
		{inode.Key(0): dir(1 << 31)},
		{inode.Key(0): packed(t, inode.Inode{Size: 9})},
		{inode.Key(0): dir(1), inode.Entry(0, "f"): "1"},
		{inode.Key(0): dir(1), inode.Entry(0, "f"): "x"},
		{inode.Key(0): dir(1), inode.Entry(0, ".."): "0"},
		{inode.Key(0): dir(1), inode.Entry(0, "/"): "0"},
		{inode.Key(0): dir(1), inode.Entry(0, "a/b"): "0"},
		{inode.Key(0): dir(9), inode.Entry(0, "a"): "1", inode.Key(1): dir(9), inode.Entry(2, "b"): "1"},
		{"c": "c", "d": "d", "i": "i", "junk": "junk"},
	} {
		t.Run(fmt.Sprint(i), func(t *testing.T) {
			x := other(t, c)
			Paths(x)
			Blocks(x)
			Scrub(x)
			Needs(x, nil)
		})
	}
}
