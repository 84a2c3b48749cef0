package fsys

import (
	"fmt"
	"math"
	"math/rand"
	"slices"
	"strings"
	"testing"

	"permafrost/api"
	"permafrost/dev"
	"permafrost/inode"
	"permafrost/model"
	"permafrost/node"
	"permafrost/ptr"
	"permafrost/store"
	"permafrost/tree"
)

// spoil harms all copies of a block.
func spoil(t *testing.T, d *dev.Devs, ref string) {
	t.Helper()
	p, e := ptr.Decode(ref)
	if e != api.OK {
		t.Fatalf("%q is no ref", ref)
	}
	for _, l := range p.Locs {
		d.Spoil(l, "harm")
	}
}

// again is a store on a copy of the devices, that keeps nothing in memory.
func again(t *testing.T, x *side, used ...string) *store.Store {
	t.Helper()
	p := x.p
	p.Arc, p.Second = 0, 0
	s, e := store.Open(x.s.Devs().Copy(), p, locs(t, x.s, append(used, x.root)...), x.txg+1)
	if e != api.OK {
		t.Fatalf("Open: %d", e)
	}
	return s
}

// anyOps are some that reach each part of the small tree.
func anyOps() []api.Op {
	var l []api.Op
	for _, p := range []string{"/", "/d", "/d/e", "/d/f", "/g", "/v", "/long", "/z", "/v/x"} {
		l = append(l, create(p), mkdir(p), unlink(p), rmdir(p), stat(p), list(p), link(p, "/v/to"), rename(p, "/v/to"))
		l = append(l, read(p, 0, 9999), read(p, 300, 9), write(p, 0, "x"), write(p, 200, bytes(300)), write(p, 0, bytes(700)), truncate(p, 300), truncate(p, 256), truncate(p, 0))
	}
	return l
}

// P19.1, P6: whichever block is lost, what is told is the model's, or that it
// can't be told; and so is what is asked of what became of that.
func TestEachBlockLost(t *testing.T) {
	x := small(t, api.Policy{})
	for i := range 12 { // so that the tree has several nodes
		x.all(t, create("/v/"+strings.Repeat("n", 99)+fmt.Sprint(i)))
		x.settle(t)
	}
	l := refs(t, x.s, x.root)
	lost, told := 0, 0
	for _, ref := range l {
		for _, o := range anyOps() {
			s := again(t, x)
			spoil(t, s.Devs(), ref)
			next, a := Do(s, x.root, o)
			m := x.m.Copy()
			if a.Code == api.ErrLost {
				lost++
				if next != x.root || !same(a, api.Answer{Code: api.ErrLost}) {
					t.Fatalf("%.80v: %v", o, a)
				}
			} else {
				told++
				if want := m.Do(o); !same(a, want) {
					t.Fatalf("%.80v: %.300v, want %.300v", o, a, want)
				}
			}
			mayLose(t, s, next, m, "/")
		}
	}
	if lost < 100 || told < 100 {
		t.Errorf("%d lost, %d told", lost, told)
	}
}

// mayLose asks for all that m has, which is told, or told as lost.
func mayLose(t *testing.T, s *store.Store, root string, m *model.Tree, p string) {
	t.Helper()
	for _, o := range []api.Op{stat(p), list(p), read(p, 0, math.MaxInt)} {
		next, a := Do(s, root, o)
		if want := m.Do(o); next != root || !same(a, want) && !same(a, api.Answer{Code: api.ErrLost}) {
			t.Fatalf("%.80v: %.300v, want %.300v", o, a, want)
		}
	}
	for _, name := range m.Do(list(p)).Names {
		mayLose(t, s, root, m, strings.TrimSuffix(p, "/")+"/"+name)
	}
}

// P19.1: of a chunk that is lost only what needs it can't be told.
func TestChunkLost(t *testing.T) {
	for _, c := range []struct {
		o api.Op
		e api.Errno
	}{
		{stat("/long"), api.OK}, {list("/"), api.OK}, {unlink("/long"), api.OK}, {rename("/long", "/x"), api.OK}, {link("/long", "/x"), api.OK}, {create("/x"), api.OK},
		{read("/long", 0, 256), api.OK}, {read("/long", 512, 999), api.OK}, {read("/long", 256, 0), api.OK}, {read("/long", 300, 0), api.OK},
		{read("/long", 0, 257), api.ErrLost}, {read("/long", 511, 1), api.ErrLost}, {read("/long", 0, 999), api.ErrLost},
		{read("/long", -1, 999), api.ErrArg}, {write("/long", 16384, "x"), api.ErrBig},
		{write("/long", 0, bytes(256)), api.OK}, {write("/long", 512, "x"), api.OK}, {write("/long", 256, bytes(256)), api.OK}, {write("/long", 0, strings.Repeat("\x00", 999)), api.OK}, {write("/long", 300, ""), api.OK},
		{write("/long", 256, bytes(255)), api.ErrLost}, {write("/long", 257, bytes(255)), api.ErrLost}, {write("/long", 0, bytes(257)), api.ErrLost}, {write("/long", 511, bytes(9)), api.ErrLost},
		{truncate("/long", 0), api.OK}, {truncate("/long", 256), api.OK}, {truncate("/long", 512), api.OK}, {truncate("/long", 999), api.OK}, {truncate("/long", 600), api.OK},
		{truncate("/long", 300), api.ErrLost}, {truncate("/long", 257), api.ErrLost},
	} {
		x := small(t, api.Policy{Small: 10})
		x.settle(t)
		l, _ := Chunks(x.s, x.root, "/long")
		spoil(t, x.s.Devs(), l[1])
		next, a := Do(x.s, x.root, c.o)
		if c.e == api.ErrLost {
			if next != x.root || !same(a, api.Answer{Code: api.ErrLost}) {
				t.Errorf("%.80v: %v", c.o, a)
			}
			continue
		}
		if want := x.m.Do(c.o); want.Code != c.e || !same(a, want) {
			t.Errorf("%.80v: %v, want %v", c.o, a, want)
		}
		mayLose(t, x.s, next, x.m, "/")
		if c.o.Do == api.Write && a.Code == api.OK && c.o.Off <= 256 && c.o.Off+len(c.o.Data) >= 512 {
			alike(t, x.s, next, x.m, "/") // it is whole again
		}
	}
}

// P19.1: the last chunk is written over whole, where all that the file has of it is.
func TestLastChunkLost(t *testing.T) {
	for _, c := range []struct {
		off, size int
		want      api.Errno
	}{{512, 88, api.OK}, {512, 87, api.ErrLost}, {513, 87, api.ErrLost}, {512, 300, api.OK}, {400, 200, api.OK}, {600, 1, api.ErrLost}, {767, 1, api.ErrLost}, {768, 1, api.OK}} {
		x := small(t, api.Policy{})
		l, _ := Chunks(x.s, x.root, "/long")
		spoil(t, x.s.Devs(), l[2])
		text := bytes(2000)[1000:] // other bytes than there were
		next, a := Do(x.s, x.root, write("/long", c.off, text[:c.size]))
		if a.Code != c.want || c.want != api.OK && next != x.root {
			t.Errorf("%d at %d: %v", c.size, c.off, a)
		}
	}
}

// P19.2: blocks' errors.
func TestListsOfLost(t *testing.T) {
	x := small(t, api.Policy{})
	x.settle(t)
	chunks, _ := Chunks(x.s, x.root, "/long")
	s := again(t, x)
	for _, ref := range chunks {
		spoil(t, s.Devs(), ref)
	}
	if l, e := Refs(s, x.root); e != api.OK || !slices.Equal(l, refs(t, x.s, x.root)) { // chunks need not be read
		t.Errorf("Refs: %d", e)
	}
	if l, e := Chunks(s, x.root, "/long"); e != api.OK || !slices.Equal(l, chunks) {
		t.Errorf("Chunks: %d", e)
	}
	slow, fast := s.Free()
	if root, e := Move(s, x.root, "/long", 0, []int{1}); root != x.root || e != api.ErrLost {
		t.Errorf("Move: %d", e)
	}
	if a, b := s.Free(); a != slow || b != fast {
		t.Error("sectors were taken")
	}
	spoil(t, s.Devs(), x.root)
	if l, e := Refs(s, x.root); len(l) > 0 || e != api.ErrLost {
		t.Errorf("Refs: %q, %d", l, e)
	}
	if l, e := Chunks(s, x.root, "/long"); len(l) > 0 || e != api.ErrLost {
		t.Errorf("Chunks: %q, %d", l, e)
	}
	if root, e := Move(s, x.root, "/long", 0, []int{1}); root != x.root || e != api.ErrLost {
		t.Errorf("Move: %d", e)
	}
	if l, e := Chunks(s, x.root, "long"); len(l) > 0 || e != api.ErrName { // which needs no block
		t.Errorf("Chunks: %q, %d", l, e)
	}
}

// P19.1: what no block is needed for is told, whatever is lost.
func TestAllLost(t *testing.T) {
	x := small(t, api.Policy{MetaFast: true})
	x.s.Devs().Lose(api.Slow)
	x.s.Devs().Lose(api.Fast)
	for _, o := range append(anyOps(), create("junk"), rename("/", "/x"), rmdir("/"), api.Op{Do: 11}, stat("//")) {
		next, a := Do(x.s, x.root, o)
		if want := x.m.Copy().Do(o); next != x.root || !same(a, api.Answer{Code: api.ErrLost}) && !same(a, want) {
			t.Errorf("%.80v: %v, want %v", o, a, want)
		}
	}
	for _, o := range []api.Op{create("junk"), create("/"), rename("/", "/x"), rmdir("/"), {Do: 11}, stat("//")} {
		if next, a := Do(x.s, x.root, o); next != x.root || !same(a, x.m.Do(o)) {
			t.Errorf("%v: %v", o, a)
		}
	}
	if root, a := Do(x.s, "", create("/a")); root != "" || a.Code != api.ErrFull {
		t.Errorf("%q, %v", root, a)
	}
	if root, a := Do(x.s, "", list("/")); root != "" || !same(a, api.Answer{}) {
		t.Errorf("%q, %v", root, a)
	}
}

// P7: with metadata mirrored the loss of the fast device is of no moment.
func TestFastLost(t *testing.T) {
	for _, p := range []api.Policy{{MetaFast: true, Mirror: true}, {MetaFast: true, Mirror: true, Arc: 9, Second: 40}} {
		x := small(t, p)
		x.s.Devs().Lose(api.Fast)
		alike(t, x.s, x.root, x.m, "/")
		for _, o := range anyOps() {
			x.do(t, o)
			x.settle(t)
		}
		alike(t, x.s, x.root, x.m, "/")
		kept(t, x.s, x.root, x.m)
	}
}

// P19.1, R6: the same again, it is the same.
func TestSameAgain(t *testing.T) {
	r := rand.New(rand.NewSource(1906))
	x := small(t, api.Policy{MetaFast: true, Small: 30})
	for range 200 {
		o := anyOp(r)
		s, other := again(t, x), again(t, x)
		next, a := Do(s, x.root, o)
		root, b := Do(other, x.root, o)
		if next != root || !same(a, b) {
			t.Fatalf("%.80v: %.300v, %.300v", o, a, b)
		}
		x.do(t, o)
		x.settle(t)
	}
}

// askAll asks for all that there is: the calls have to end.
func askAll(s *store.Store, root string) {
	for _, o := range append(anyOps(), read("/f", 0, math.MaxInt), read("/f", math.MaxInt, 1), write("/f", 3, "x"), truncate("/f", 300), unlink("/f"), rename("/f", "/x"), link("/f", "/x"), list("/l/l/l/l"), stat("/l/l"), rmdir("/l"), create("/l/x")) {
		next, a := Do(s, root, o)
		if a.Code == api.OK {
			Refs(s, next)
			Chunks(s, next, "/f")
		}
	}
	Refs(s, root)
	for _, p := range []string{"/", "/f", "/l", "/l/l/f"} {
		l, _ := Chunks(s, root, p)
		for k := range len(l) + 1 {
			Move(s, root, p, k, []int{1})
		}
	}
}

// R1: whatever the root is, the calls end.
func TestOtherRoots(t *testing.T) {
	x := small(t, api.Policy{})
	chunks, _ := Chunks(x.s, x.root, "/long")
	drafted, _ := newDraft(x.s).Put("")
	for _, root := range []string{"r", "/", strings.Repeat("x", 44), strings.Repeat("\x01", 44), drafted, x.root + "x", x.root[1:], chunks[0]} {
		if next, a := Do(x.s, root, create("/a")); next != root || a.Code == api.OK {
			t.Errorf("%q: %q, %v", root, next, a)
		}
		askAll(x.s, root)
	}
}

// pack makes a leaf of these pairs, and tells its ref.
func pack(t *testing.T, s *store.Store, leaf bool, pairs map[string]string) string {
	t.Helper()
	n := node.Node{Leaf: leaf}
	for key, val := range pairs {
		n = node.With(n, key, val)
	}
	text, e := node.Encode(n)
	if e != api.OK {
		t.Fatalf("Encode: %d", e)
	}
	ref, e := s.Put(text)
	if e != api.OK {
		t.Fatalf("Put: %d", e)
	}
	return ref
}

func packed(t *testing.T, i inode.Inode) string {
	t.Helper()
	text, e := inode.Encode(i)
	if e != api.OK {
		t.Fatalf("Encode: %d", e)
	}
	return text
}

// R1: trees that no call made, by nodes that are right, but tell what may not be.
func TestOtherTrees(t *testing.T) {
	const most = 1 << 31
	top := func(size int) string { return packed(t, inode.Inode{Dir: true, Size: size}) }
	file := func(size int, links int) string { return packed(t, inode.Inode{Size: size, Links: links}) }
	long := strings.Repeat("x", 900)
	for i, c := range []map[string]string{
		{},
		{inode.Key(0): "junk"},
		{inode.Key(0): file(9, 1)},
		{inode.Key(0): top(most)},
		{inode.Key(0): top(0), inode.Entry(0, "f"): "1"},
		{inode.Key(0): top(1), inode.Entry(0, "f"): "1"},
		{inode.Key(0): top(1), inode.Entry(0, "f"): ""},
		{inode.Key(0): top(1), inode.Entry(0, "f"): "-1"},
		{inode.Key(0): top(1), inode.Entry(0, "f"): "x"},
		{inode.Key(0): top(1), inode.Entry(0, "f"): "99999999999999999999999"},
		{inode.Key(0): top(1), inode.Entry(0, "f"): "2147483648", inode.Key(most): file(most, most)},
		{inode.Key(0): top(2), inode.Entry(0, "f"): "1", inode.Key(1): file(most, 0)},
		{inode.Key(0): top(2), inode.Entry(0, "f"): "1", inode.Key(1): file(0, most)},
		{inode.Key(0): top(2), inode.Entry(0, "f"): "1", inode.Key(1): file(16384, 1)},
		{inode.Key(0): top(2), inode.Entry(0, "f"): "1", inode.Key(1): file(16385, 1)},
		{inode.Key(0): top(most), inode.Entry(0, "l"): "0", inode.Entry(0, "f"): "1", inode.Key(1): file(300, 0), inode.Chunk(1, 0): "", inode.Chunk(1, 1): "junk"},
		{inode.Key(0): top(1), inode.Entry(0, "f"): "1", inode.Key(1): file(300, 1), inode.Chunk(1, 0): "long", inode.Chunk(1, 1): "long", inode.Chunk(9, 9): "self"},
		{inode.Key(0): top(1), inode.Entry(0, "l"): "1", inode.Key(1): top(1), inode.Entry(1, "l"): "1", inode.Key(2): top(0), inode.Key(4): top(0)},
		{"junk": "junk", "c": "c", "d": "d", "i": "i"},
	} {
		x := big(t, api.Policy{})
		data, _ := x.s.PutData(long)
		for key, val := range c {
			if val == "long" {
				c[key] = data
			}
		}
		t.Run(fmt.Sprint(i), func(t *testing.T) { askAll(x.s, pack(t, x.s, true, c)) })
	}
}

// R1: nodes that lead to what a draft's refs would be, themselves among them.
func TestNodesOfDrafts(t *testing.T) {
	x := big(t, api.Policy{})
	leaf := pack(t, x.s, true, map[string]string{inode.Key(0): packed(t, inode.Inode{Dir: true, Size: 5}), inode.Entry(0, "l"): "0"})
	d := newDraft(x.s)
	var drafts []string
	for range 16 {
		ref, _ := d.Put("")
		drafts = append(drafts, ref)
	}
	for i, ref := range drafts {
		root := pack(t, x.s, false, map[string]string{"\x01": leaf, inode.Key(1): ref, "z": drafts[(i+1)%16]})
		above := pack(t, x.s, false, map[string]string{"\x01": root, inode.Key(2): drafts[(i+2)%16], "z": ref})
		for _, root := range []string{root, above} {
			if next, a := Do(x.s, root, rename("/l", "/x")); a.Code != api.OK || next == root {
				t.Fatalf("%d: %v", i, a)
			}
			askAll(x.s, root)
		}
		x.s.Settle(locs(t, x.s, leaf), 2)
	}
}

// A node of drafts always has room for the refs that come in their place.
func TestRefBytes(t *testing.T) {
	for _, p := range []api.Policy{{}, {MetaFast: true, Mirror: true}} {
		x := small(t, p)
		d := newDraft(x.s)
		ref, e := d.Put("text")
		if e != api.OK || len(ref) < len(x.root) {
			t.Errorf("%d bytes, %d", len(ref), len(x.root))
		}
		if text, e := d.Get(ref); text != "text" || e != api.OK {
			t.Errorf("%q, %d", text, e)
		}
		if _, e := x.s.Get(ref); e != api.ErrForm {
			t.Errorf("the store has a draft: %d", e)
		}
		if _, e := tree.Get(d, x.root, inode.Key(0)); e != api.OK {
			t.Errorf("a draft has not what the store has: %d", e)
		}
	}
}
