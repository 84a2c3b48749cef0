package fsys

import (
	"fmt"
	"math"
	"math/rand"
	"slices"
	"strings"
	"testing"

	"permafrost/api"
	"permafrost/class"
	"permafrost/dev"
	"permafrost/inode"
	"permafrost/model"
	"permafrost/ptr"
	"permafrost/store"
	"permafrost/tree"
)

func create(p string) api.Op { return api.Op{Do: api.Create, Path: p} }

func mkdir(p string) api.Op { return api.Op{Do: api.Mkdir, Path: p} }

func link(p string, to string) api.Op { return api.Op{Do: api.Link, Path: p, To: to} }

func unlink(p string) api.Op { return api.Op{Do: api.Unlink, Path: p} }

func rmdir(p string) api.Op { return api.Op{Do: api.Rmdir, Path: p} }

func rename(p string, to string) api.Op { return api.Op{Do: api.Rename, Path: p, To: to} }

func read(p string, off int, n int) api.Op {
	return api.Op{Do: api.Read, Path: p, Off: off, Len: n}
}

func write(p string, off int, data string) api.Op {
	return api.Op{Do: api.Write, Path: p, Off: off, Data: data}
}

func truncate(p string, n int) api.Op { return api.Op{Do: api.Truncate, Path: p, Len: n} }

func stat(p string) api.Op { return api.Op{Do: api.Stat, Path: p} }

func list(p string) api.Op { return api.Op{Do: api.List, Path: p} }

// bytes is n bytes of which no chunk has the same as another one.
func bytes(n int) string {
	var b strings.Builder
	for i := 0; b.Len() < n; i++ {
		fmt.Fprintf(&b, "%d ", i)
	}
	return b.String()[:n]
}

// same tells whether two answers are, a list that is nil being like an empty one.
func same(a api.Answer, b api.Answer) bool {
	return a.Code == b.Code && a.N == b.N && a.Data == b.Data && slices.Equal(a.Names, b.Names)
}

// side is a tree of files in a store, and the model's tree that is like it.
type side struct {
	s    *store.Store
	p    api.Policy
	txg  int
	root string
	m    *model.Tree
}

func begin(t *testing.T, d *dev.Devs, p api.Policy) *side {
	t.Helper()
	s, e := store.Open(d, p, nil, 1)
	if e != api.OK {
		t.Fatalf("Open: %d", e)
	}
	return &side{s: s, p: p, txg: 1, m: model.New()}
}

// big has room for all that is done below.
func big(t *testing.T, p api.Policy) *side {
	t.Helper()
	return begin(t, dev.New(512, 512), p)
}

// told is all that a tree answers of itself below a path.
func told(m *model.Tree, p string) string {
	all := fmt.Sprintf("%q %v %v\n", p, m.Do(stat(p)), m.Do(read(p, 0, math.MaxInt)))
	for _, name := range m.Do(list(p)).Names {
		all += told(m, strings.TrimSuffix(p, "/")+"/"+name)
	}
	return all
}

// do asks both trees for o, and holds what they answer against each other. That
// there is no room is told where there is less than o needs, and changes nothing.
func (x *side) do(t *testing.T, o api.Op) api.Answer {
	t.Helper()
	slow, fast := x.s.Free()
	needSlow, needFast := class.Need(x.p, first(Need(o)), second(Need(o)))
	next, a := Do(x.s, x.root, o)
	leftSlow, leftFast := x.s.Free()
	if slow-leftSlow > needSlow || fast-leftFast > needFast {
		t.Fatalf("P19.3: %.80v: took %d, %d, needs %d, %d", o, slow-leftSlow, fast-leftFast, needSlow, needFast)
	}
	if a.Code == api.ErrFull {
		if slow >= needSlow && fast >= needFast {
			t.Fatalf("P3: %.80v: no room in %d, %d, needs %d, %d", o, slow, fast, needSlow, needFast)
		}
		if next != x.root || !same(a, api.Answer{Code: api.ErrFull}) {
			t.Fatalf("P19.1: %.80v: %v", o, a)
		}
		return a
	}
	was := told(x.m, "/")
	if want := x.m.Do(o); !same(a, want) {
		t.Fatalf("P19.1: %.80v: %.300v, want %.300v", o, a, want)
	}
	if stays := told(x.m, "/") == was; stays != (next == x.root) {
		t.Fatalf("P19.1: %.80v: the tree stays: %v, the root stays: %v", o, stays, next == x.root)
	}
	if next == x.root && (slow != leftSlow || fast != leftFast) {
		t.Fatalf("%.80v: nothing changed, but sectors were taken", o)
	}
	x.root = next
	return a
}

func first(a int, _ int) int { return a }

func second(_ int, b int) int { return b }

// all does what has to be OK.
func (x *side) all(t *testing.T, ops ...api.Op) {
	t.Helper()
	for _, o := range ops {
		if a := x.do(t, o); a.Code != api.OK {
			t.Fatalf("%.80v: %v", o, a)
		}
	}
}

// alike asks the tree at root for all that m has.
func alike(t *testing.T, s *store.Store, root string, m *model.Tree, p string) {
	t.Helper()
	for _, o := range []api.Op{stat(p), list(p), read(p, 0, math.MaxInt)} {
		next, a := Do(s, root, o)
		if want := m.Do(o); !same(a, want) || next != root {
			t.Fatalf("%.80v: %.300v, want %.300v", o, a, want)
		}
	}
	for _, name := range m.Do(list(p)).Names {
		alike(t, s, root, m, strings.TrimSuffix(p, "/")+"/"+name)
	}
}

// refs tells all refs of a tree that has to have them.
func refs(t *testing.T, s *store.Store, root string) []string {
	t.Helper()
	l, e := Refs(s, root)
	if e != api.OK {
		t.Fatalf("Refs: %d", e)
	}
	return l
}

// locs tells where the blocks of these roots are.
func locs(t *testing.T, s *store.Store, roots ...string) []api.Loc {
	t.Helper()
	var l []api.Loc
	for _, root := range roots {
		for _, ref := range refs(t, s, root) {
			p, e := ptr.Decode(ref)
			if e != api.OK {
				t.Fatalf("%q is no ref", ref)
			}
			l = append(l, p.Locs...)
		}
	}
	return l
}

// settle makes all sectors free that these roots, and the tree's own, don't need.
func (x *side) settle(t *testing.T, roots ...string) {
	t.Helper()
	x.txg++
	if e := x.s.Settle(locs(t, x.s, append(roots, x.root)...), x.txg); e != api.OK {
		t.Fatalf("Settle: %d", e)
	}
}

// pairs tells all pairs of a tree.
func pairs(t *testing.T, s *store.Store, root string) map[string]string {
	t.Helper()
	l, e := tree.Scan(s, root, "", math.MaxInt)
	if e != api.OK {
		t.Fatalf("Scan: %d", e)
	}
	m := map[string]string{}
	for _, p := range l {
		m[p.Key] = p.Val
	}
	return m
}

// take tells the value of a key, which has to be there, and takes it away.
func take(t *testing.T, m map[string]string, key string) string {
	t.Helper()
	val, is := m[key]
	if !is {
		t.Fatalf("there is no %q", key)
	}
	delete(m, key)
	return val
}

// kept looks for what a root has to keep: of each thing the model's inode, of
// each entry a number, of each chunk bytes that are the file's; nothing else.
func kept(t *testing.T, s *store.Store, root string, m *model.Tree) {
	t.Helper()
	l := pairs(t, s, root)
	if root == "" {
		return
	}
	seen := map[string]string{} // what was seen of a file, by its number
	var look func(p string, n int)
	look = func(p string, n int) {
		a := m.Do(stat(p))
		what := fmt.Sprint(a, m.Do(read(p, 0, math.MaxInt)))
		if was, is := seen[fmt.Sprint(n)]; is {
			if was != what || a.Data == "dir" {
				t.Fatalf("two things have the number %d", n)
			}
			return
		}
		seen[fmt.Sprint(n)] = what
		i, e := inode.Decode(take(t, l, inode.Key(n)))
		if e != api.OK || i.Size != a.N || i.Dir != (a.Data == "dir") || !i.Dir && fmt.Sprint(i.Links) != a.Names[0] {
			t.Fatalf("%s: %v, %d: %v", p, i, e, a)
		}
		if i.Dir {
			for _, name := range m.Do(list(p)).Names {
				digits, next := take(t, l, inode.Entry(n, name)), 0
				fmt.Sscan(digits, &next)
				if digits != fmt.Sprint(next) || next < 1 {
					t.Fatalf("%s: an entry of %q", p, digits)
				}
				look(strings.TrimSuffix(p, "/")+"/"+name, next)
			}
			return
		}
		text := m.Do(read(p, 0, math.MaxInt)).Data
		for k := 0; k*256 < len(text); k++ {
			ref, is := l[inode.Chunk(n, k)]
			if !is {
				ref = ""
			}
			delete(l, inode.Chunk(n, k))
			want := text[k*256 : min(len(text), k*256+256)]
			has := ""
			if is {
				if has, e = s.Get(ref); e != api.OK || len(has) > len(want) {
					t.Fatalf("%s: chunk %d: %d bytes, %d", p, k, len(has), e)
				}
			}
			if has+strings.Repeat("\x00", len(want)-len(has)) != want {
				t.Fatalf("%s: chunk %d has other bytes", p, k)
			}
		}
	}
	look("/", 0)
	if len(l) > 0 {
		t.Fatalf("pairs of nothing: %q", l)
	}
}

func TestExample(t *testing.T) { // P19.1
	s, _ := store.Open(dev.New(16, 16), api.Policy{}, nil, 1)
	root, a := Do(s, "", create("/a"))
	if root == "" || a.Code != api.OK {
		t.Errorf("%q, %v", root, a)
	}
	next, a := Do(s, root, stat("/a"))
	if next != root || a.Data != "file" {
		t.Errorf("%q, %v", next, a)
	}
}

// small is the tree that the cases below are asked of: /d has f, which is g too,
// /d/e and /v have nothing, /long has 600 bytes.
func small(t *testing.T, p api.Policy) *side {
	t.Helper()
	x := big(t, p)
	x.all(t, mkdir("/d"), mkdir("/d/e"), mkdir("/v"), create("/d/f"), write("/d/f", 0, "abcdef"), link("/d/f", "/g"), create("/long"), write("/long", 0, bytes(600)))
	return x
}

// P19.1: whatever one thing is asked is answered as by the model.
func TestEachOp(t *testing.T) {
	start := small(t, api.Policy{})
	paths := []string{"", "d", "//", "/d/", "/.", "/z/../d", "/d\x00", "/" + strings.Repeat("n", 256), "/" + strings.Repeat("n", 255), "/", "/d", "/d/e", "/d/f", "/g", "/v", "/long", "/z", "/d/z", "/z/z", "/z/z/z", "/g/x", "/g/x/y", "/d/f/x", "/d/e/x"}
	numbers := []int{0, 1, 5, 6, 7, 255, 256, 257, 512, 599, 600, 601, 767, 768, 769, 16383, 16384, 16385, -1, math.MinInt, math.MaxInt}
	ask := func(o api.Op) {
		t.Helper()
		x := *start
		x.m = start.m.Copy()
		x.s.Settle(locs(t, x.s, x.root), 2)
		x.do(t, o)
		alike(t, x.s, x.root, x.m, "/")
		kept(t, x.s, x.root, x.m)
	}
	for _, p := range paths {
		for _, o := range []api.Op{create(p), mkdir(p), unlink(p), rmdir(p), stat(p), list(p)} {
			ask(o)
		}
		for _, to := range append(paths, p, p+"/x") {
			ask(link(p, to))
			ask(rename(p, to))
		}
		for do := range 14 {
			ask(api.Op{Do: do - 2, Path: p, To: "/to", Data: "data", Off: 3, Len: 4})
		}
	}
	for _, p := range []string{"/g", "/long", "/d", "/", "/z", "junk"} {
		for _, n := range numbers {
			ask(truncate(p, n))
			for _, other := range numbers {
				ask(read(p, n, other))
			}
			for _, size := range []int{0, 1, 2, 255, 256, 257, 512, 600, 16384, 16385} {
				ask(write(p, n, strings.Repeat("x", size)))
				ask(write(p, n, strings.Repeat("\x00", size)))
			}
		}
	}
	for _, do := range []int{math.MinInt, -1, 11, math.MaxInt} {
		ask(api.Op{Do: do, Path: "/g"})
	}
}

// P19.1: the root stays, where what is written is there already.
func TestTheSameAgain(t *testing.T) {
	x := small(t, api.Policy{})
	was := x.root
	text := bytes(600)
	x.all(t, write("/long", 0, text), write("/long", 250, text[250:520]), write("/long", 599, text[599:]), write("/g", 16384, ""), truncate("/long", 600))
	if x.root != was {
		t.Error("the root is another one")
	}
	x.all(t, truncate("/long", 900))
	was = x.root
	x.all(t, write("/long", 600, strings.Repeat("\x00", 300)))
	if x.root != was {
		t.Error("the root is another one")
	}
}

// P19.1: what was cut off does not come back, in however many steps.
func TestCut(t *testing.T) {
	for _, size := range []int{1, 255, 256, 257, 300, 512, 700, 1024} {
		for _, cut := range []int{0, 1, 2, 255, 256, 257, 299, 511, 512, 513, 699} {
			x := big(t, api.Policy{Small: 256})
			x.all(t, create("/a"), write("/a", 0, bytes(size)), truncate("/a", cut))
			kept(t, x.s, x.root, x.m)
			x.all(t, truncate("/a", size+300), read("/a", 0, 9999))
			x.all(t, truncate("/a", cut), truncate("/a", cut/2), write("/a", cut+500, "end"), read("/a", 0, 9999))
			kept(t, x.s, x.root, x.m)
		}
	}
}

// P19.1: the tree without entries is the empty root, again and again; and what
// is gone is gone, with all chunks.
func TestEmptyAgain(t *testing.T) {
	x := big(t, api.Policy{MetaFast: true})
	for range 3 {
		x.all(t, mkdir("/d"), create("/d/a"), write("/d/a", 300, bytes(900)), link("/d/a", "/b"), rename("/d", "/e"), unlink("/e/a"), rename("/b", "/e/b"), truncate("/e/b", 9), unlink("/e/b"), rmdir("/e"))
		if x.root != "" {
			t.Errorf("%q", pairs(t, x.s, x.root))
		}
		alike(t, x.s, "", model.New(), "/")
	}
}

// P19.1: things that come and go have numbers of their own.
func TestNumbers(t *testing.T) {
	r := rand.New(rand.NewSource(1919))
	x := big(t, api.Policy{})
	for range 300 {
		p := fmt.Sprint("/", r.Intn(40))
		if r.Intn(3) == 0 {
			x.do(t, unlink(p))
		} else {
			x.do(t, create(p))
			x.do(t, write(p, 0, p))
		}
		x.settle(t)
		kept(t, x.s, x.root, x.m)
	}
}

// P19.1: directories that have many entries, by names of all lengths.
func TestManyNames(t *testing.T) {
	for _, p := range []api.Policy{{}, {MetaFast: true, Mirror: true}} {
		r := rand.New(rand.NewSource(19))
		x := big(t, p)
		var names []string
		for i := range 150 {
			name := "/" + strings.Repeat(string(rune('a'+r.Intn(26))), []int{0, 1, 100, 200, 252}[r.Intn(5)]) + fmt.Sprint(i)
			names = append(names, name)
			x.all(t, create(name))
			x.settle(t)
		}
		x.all(t, list("/"), stat("/"))
		kept(t, x.s, x.root, x.m)
		for _, i := range r.Perm(len(names)) {
			x.all(t, unlink(names[i]), list("/"))
			x.settle(t)
		}
		if x.root != "" {
			t.Error("something is left")
		}
	}
}

// P19.1: a directory's names stand alone, whatever bytes they have.
func TestNamesOfOneDirectory(t *testing.T) {
	x := big(t, api.Policy{})
	for _, dir := range []string{"/a", "/b", "/c"} {
		x.all(t, mkdir(dir), list(dir))
	}
	for _, name := range []string{"\xff", "\x01", "\x01\x01", " ", "\xff\xff", "A", "aa", "...", "\x02", strings.Repeat("\xff", 255), strings.Repeat("\x01", 255)} {
		for _, dir := range []string{"/a", "/b", "/c", ""} {
			x.all(t, create(dir+"/"+name), list("/a"), list("/b"), list("/c"), list("/"))
			x.settle(t)
		}
	}
	kept(t, x.s, x.root, x.m)
}

func TestDeepPaths(t *testing.T) { // P19.1
	x := big(t, api.Policy{Arc: 20})
	p := ""
	for i := range 60 {
		p += fmt.Sprint("/", i)
		x.all(t, mkdir(p))
		x.settle(t)
	}
	x.all(t, create(p+"/f"), write(p+"/f", 0, "deep"), read(p+"/f", 0, 9), rename("/0", "/x"), read("/x"+p[2:]+"/f", 0, 9))
	alike(t, x.s, x.root, x.m, "/")
}

func anyPolicy(r *rand.Rand) api.Policy {
	return api.Policy{MetaFast: r.Intn(2) == 0, Mirror: r.Intn(2) == 0, Small: r.Intn(2) * r.Intn(257), Arc: r.Intn(2) * (1 + r.Intn(20)), Second: r.Intn(2) * r.Intn(40)}
}

func anyPath(r *rand.Rand) string {
	if r.Intn(30) == 0 {
		return []string{"/", "", "a", "//", "/a/", "/a/..", "/a/b/c/d/a/b", "/\x00"}[r.Intn(8)]
	}
	p := ""
	for range 1 + r.Intn(4)*r.Intn(4)/3 {
		p += "/" + string("abcd"[r.Intn(4)])
		if r.Intn(12) == 0 {
			p += strings.Repeat("n", 250)
		}
	}
	return p
}

func anyOp(r *rand.Rand) api.Op {
	numbers := []int{0, 0, 0, 1, 8, 255, 256, 257, 300, 512, 16383, 16384, 16385, -1, math.MinInt, math.MaxInt, r.Intn(2000), r.Intn(2000)}
	return api.Op{
		Do: []int{-1, 0, 0, 0, 1, 1, 2, 2, 3, 4, 5, 5, 6, 6, 7, 7, 7, 8, 9, 10, 11}[r.Intn(21)], Path: anyPath(r), To: anyPath(r),
		Off: numbers[r.Intn(len(numbers))], Len: numbers[r.Intn(len(numbers))],
		Data: strings.Repeat(fmt.Sprint(r.Intn(100)), r.Intn(2)*r.Intn(400)),
	}
}

// P19.1, P19.3, P19.4, R6: whatever is asked, on devices of any sizes, by any
// policy, is answered as by the model, or there is no room; older roots stay.
func TestAgainstTheModel(t *testing.T) {
	r := rand.New(rand.NewSource(191))
	full := 0
	for range 200 {
		x := begin(t, dev.New(5+r.Intn(8)*r.Intn(73), 5+r.Intn(8)*r.Intn(73)), anyPolicy(r))
		var olds []string
		var models []*model.Tree
		for step := range 150 {
			o := anyOp(r)
			if a := x.do(t, o); a.Code == api.ErrFull {
				full++
				x.settle(t, olds...)
				x.do(t, o)
			}
			if step%10 == 0 || r.Intn(10) == 0 {
				alike(t, x.s, x.root, x.m, "/")
				kept(t, x.s, x.root, x.m)
				x.settle(t, olds...)
			}
			if step%50 == 20 {
				olds, models = append(olds, x.root), append(models, x.m.Copy())
			}
			if len(olds) > 0 && r.Intn(20) == 0 { // goes on from an older one
				i := r.Intn(len(olds))
				x.root, x.m = olds[i], models[i].Copy()
			}
		}
		for i, old := range olds {
			alike(t, x.s, old, models[i], "/")
		}
	}
	if full < 100 {
		t.Errorf("only %d without room", full)
	}
}

// P19.3: no block is put that the new root does not lead to.
func TestPutsNoMore(t *testing.T) {
	r := rand.New(rand.NewSource(193))
	for range 20 {
		p := anyPolicy(r)
		p.Mirror = false // so each block takes one sector
		x := big(t, p)
		for range 60 {
			was := refs(t, x.s, x.root)
			slow, fast := x.s.Free()
			x.do(t, anyOp(r))
			leftSlow, leftFast := x.s.Free()
			now := slices.DeleteFunc(refs(t, x.s, x.root), func(ref string) bool { return slices.Contains(was, ref) })
			if taken := slow + fast - leftSlow - leftFast; taken != len(now) {
				t.Fatalf("%d sectors for %d blocks", taken, len(now))
			}
			x.settle(t)
		}
	}
}

// P19.1: what is told is no list of the tree's own (R5).
func TestAnswersAreNew(t *testing.T) {
	x := small(t, api.Policy{Arc: 5})
	_, a := Do(x.s, x.root, list("/"))
	clear(a.Names)
	clear(refs(t, x.s, x.root))
	l, _ := Chunks(x.s, x.root, "/long")
	clear(l)
	alike(t, x.s, x.root, x.m, "/")
	if l, _ := Chunks(x.s, x.root, "/long"); len(l) != 3 || l[0] == "" {
		t.Errorf("%q", l)
	}
}

func TestNoStore(t *testing.T) { // P19.1, P19.2
	for i, s := range []*store.Store{nil, {}} {
		for _, root := range []string{"", "r"} {
			for do := -1; do < 12; do++ {
				for _, p := range []string{"/", "/a", "junk"} {
					if r, a := Do(s, root, api.Op{Do: do, Path: p}); r != root || !same(a, api.Answer{Code: api.ErrArg}) {
						t.Errorf("%d: Do %d: %q, %v", i, do, r, a)
					}
				}
			}
			if l, e := Refs(s, root); len(l) > 0 || e != api.ErrArg {
				t.Errorf("%d: Refs: %q, %d", i, l, e)
			}
			if l, e := Chunks(s, root, "/a"); len(l) > 0 || e != api.ErrArg {
				t.Errorf("%d: Chunks: %q, %d", i, l, e)
			}
			if r, e := Move(s, root, "/a", 0, []int{0}); r != root || e != api.ErrArg {
				t.Errorf("%d: Move: %q, %d", i, r, e)
			}
		}
	}
}

// P19.2: nodes in tree.Refs' order, and then chunks by their keys.
func TestRefs(t *testing.T) {
	x := small(t, api.Policy{Small: 100})
	if l := refs(t, x.s, ""); len(l) > 0 {
		t.Errorf("of the empty root: %q", l)
	}
	for i := range 30 {
		x.all(t, create(fmt.Sprint("/v/", i)))
	}
	for i := range 10 {
		x.all(t, write(fmt.Sprint("/v/", 3*i), 0, bytes(100*i)))
	}
	nodes, _ := tree.Refs(x.s, x.root)
	scan, _ := tree.Scan(x.s, x.root, "", math.MaxInt)
	want := slices.Clone(nodes)
	for _, p := range scan {
		if p.Key[0] == 'c' {
			want = append(want, p.Val)
		}
	}
	if len(nodes) < 3 || len(want)-len(nodes) < 10 {
		t.Fatalf("%d nodes, %d refs", len(nodes), len(want))
	}
	if l := refs(t, x.s, x.root); !slices.Equal(l, want) {
		t.Errorf("%q, want %q", l, want)
	}
}

func TestChunks(t *testing.T) { // P19.2
	x := small(t, api.Policy{})
	x.all(t, create("/empty"), create("/hole"), truncate("/hole", 512), create("/mixed"), write("/mixed", 300, "x"), write("/mixed", 1280, "y"))
	for _, c := range []struct {
		p    string
		want string // of each chunk, whether there is a block
		e    api.Errno
	}{
		{"/empty", "", api.OK}, {"/g", "1", api.OK}, {"/d/f", "1", api.OK}, {"/long", "111", api.OK}, {"/hole", "00", api.OK}, {"/mixed", "010001", api.OK},
		{"/d", "", api.ErrDir}, {"/", "", api.ErrDir}, {"/z", "", api.ErrNone}, {"/g/x", "", api.ErrNotDir}, {"g", "", api.ErrName}, {"", "", api.ErrName},
	} {
		l, e := Chunks(x.s, x.root, c.p)
		is := ""
		for k, ref := range l {
			if ref == "" {
				is += "0"
				continue
			}
			is += "1"
			text, e := x.s.Get(ref)
			want := x.m.Do(read(c.p, 256*k, 256)).Data
			if e != api.OK || len(text) > len(want) || sized(text, len(want)) != want { // a file may have grown behind the block
				t.Errorf("%s: chunk %d: %q, %d, want %q", c.p, k, text, e, want)
			}
		}
		if is != c.want || e != c.e {
			t.Errorf("%s: %s, %d, want %s, %d", c.p, is, e, c.want, c.e)
		}
	}
	if l, e := Chunks(x.s, "", "/a"); len(l) > 0 || e != api.ErrNone {
		t.Errorf("of the empty root: %q, %d", l, e)
	}
	x.all(t, truncate("/mixed", 1024), truncate("/mixed", 16384))
	if l, _ := Chunks(x.s, x.root, "/mixed"); len(l) != 64 || l[1] == "" || l[5] != "" {
		t.Errorf("%q", l)
	}
}

func TestMove(t *testing.T) { // P19.2
	x := small(t, api.Policy{Small: 100})
	x.all(t, write("/long", 1100, "end"))
	for _, c := range []struct {
		p    string
		k    int
		devs []int
	}{{"/long", 0, []int{1}}, {"/long", 2, []int{0}}, {"/long", 4, []int{1, 0}}, {"/g", 0, []int{0, 1}}, {"/d/f", 0, []int{0}}, {"/d/f", 0, []int{0}}} {
		was, _ := Chunks(x.s, x.root, c.p)
		before := pairs(t, x.s, x.root)
		old := x.root
		next, e := Move(x.s, x.root, c.p, c.k, c.devs)
		if e != api.OK || next == old {
			t.Fatalf("%v: %d", c, e)
		}
		x.root = next
		now, _ := Chunks(x.s, next, c.p)
		p, _ := ptr.Decode(now[c.k])
		var on []int
		for _, l := range p.Locs {
			on = append(on, l.Dev)
		}
		if now[c.k] == was[c.k] || !slices.Equal(on, c.devs) {
			t.Errorf("%v: on %v", c, on)
		}
		after := pairs(t, x.s, next)
		changed := 0
		for key, val := range after {
			if before[key] != val {
				changed++
			}
		}
		if changed != 1 || len(before) != len(after) {
			t.Errorf("%v: %d pairs changed", c, changed)
		}
		alike(t, x.s, next, x.m, "/")
		alike(t, x.s, old, x.m, "/")
		kept(t, x.s, next, x.m)
	}
}

func TestMoveRefuses(t *testing.T) { // P19.2
	x := small(t, api.Policy{})
	x.all(t, create("/hole"), write("/hole", 300, "x"), create("/empty"))
	for i, c := range []struct {
		p    string
		k    int
		devs []int
		e    api.Errno
	}{
		{"/d", 0, []int{0}, api.ErrDir}, {"/z", 0, []int{0}, api.ErrNone}, {"/g/x", 0, []int{0}, api.ErrNotDir}, {"g", 0, []int{0}, api.ErrName},
		{"/d", 9, nil, api.ErrDir}, // what the path leads to comes first
		{"/long", 3, []int{0}, api.ErrNone}, {"/long", -1, []int{0}, api.ErrNone}, {"/long", math.MaxInt, []int{0}, api.ErrNone}, {"/long", math.MinInt, []int{0}, api.ErrNone},
		{"/long", 3, nil, api.ErrNone}, // and whether there is a chunk
		{"/hole", 0, []int{0}, api.ErrNone}, {"/empty", 0, []int{0}, api.ErrNone},
		{"/long", 0, nil, api.ErrArg}, {"/long", 0, []int{2}, api.ErrArg}, {"/long", 0, []int{1, 1}, api.ErrArg}, {"/long", 2, []int{0, 1, 0}, api.ErrArg},
	} {
		slow, fast := x.s.Free()
		root, e := Move(x.s, x.root, c.p, c.k, c.devs)
		if root != x.root || e != c.e {
			t.Errorf("%d: %d, want %d", i, e, c.e)
		}
		if a, b := x.s.Free(); a != slow || b != fast {
			t.Errorf("%d: sectors were taken", i)
		}
	}
	if root, e := Move(x.s, "", "/a", 0, []int{0}); root != "" || e != api.ErrNone {
		t.Errorf("of the empty root: %q, %d", root, e)
	}
}

// P19.2: a block that can't be put.
func TestMoveWithoutRoom(t *testing.T) {
	x := begin(t, dev.New(40, 6), api.Policy{})
	x.all(t, create("/a"), write("/a", 0, bytes(600)))
	for k := range 2 {
		next, e := Move(x.s, x.root, "/a", k, []int{1})
		if e != api.OK {
			t.Fatalf("%d: %d", k, e)
		}
		x.root = next
	}
	if root, e := Move(x.s, x.root, "/a", 2, []int{1}); root != x.root || e != api.ErrFull {
		t.Errorf("%d", e)
	}
	for slow, _ := x.s.Free(); slow > 1; slow-- {
		x.s.PutOn("x", []int{0})
	}
	if root, e := Move(x.s, x.root, "/a", 2, []int{0}); root != x.root || e != api.ErrFull { // there is no room for a node
		t.Errorf("%d", e)
	}
	alike(t, x.s, x.root, x.m, "/")
}

func TestNeed(t *testing.T) { // P19.3
	for _, c := range []struct {
		o     api.Op
		m, d  int
		which string
	}{
		{create("/a"), 300, 0, "Create"}, {mkdir("/a"), 300, 0, "Mkdir"}, {link("/a", "/b"), 300, 0, "Link"}, {rmdir("/a"), 300, 0, "Rmdir"}, {rename("/a", "/b"), 300, 0, "Rename"},
		{unlink("/a"), 3550, 0, "Unlink"}, {truncate("/a", 9), 3350, 1, "Truncate"}, {truncate("/a", -1), 3350, 1, "Truncate"},
		{read("/a", 0, 9), 0, 0, "Read"}, {stat("/a"), 0, 0, "Stat"}, {list("/a"), 0, 0, "List"},
		{api.Op{Do: -1}, 0, 0, "-1"}, {api.Op{Do: 11}, 0, 0, "11"}, {api.Op{Do: math.MinInt}, 0, 0, "least"}, {api.Op{Do: math.MaxInt}, 0, 0, "most"},
		{write("/a", 0, ""), 100, 0, "of nothing"}, {write("/a", 16384, ""), 100, 0, "of nothing"}, {write("/a", math.MaxInt, ""), 100, 0, "refused"},
		{write("/a", 0, "x"), 150, 1, "one byte"}, {write("/a", 255, "x"), 150, 1, "one byte"}, {write("/a", 256, "x"), 150, 1, "one byte"}, {write("/a", 16383, "x"), 150, 1, "the last one"},
		{write("/a", 255, "xy"), 200, 2, "two"}, {write("/a", 0, bytes(256)), 150, 1, "a chunk"}, {write("/a", 0, bytes(257)), 200, 2, "and a byte"}, {write("/a", 1, bytes(256)), 200, 2, "across"}, {write("/a", 255, bytes(258)), 250, 3, "three"},
		{write("/a", 0, bytes(16384)), 3300, 64, "all"}, {write("/a", 16384, "x"), 100, 0, "refused"}, {write("/a", 1, bytes(16384)), 100, 0, "refused"}, {write("/a", 0, bytes(16385)), 100, 0, "refused"},
		{write("/a", -1, "x"), 100, 0, "refused"}, {write("/a", math.MinInt, "x"), 100, 0, "refused"}, {write("/a", math.MaxInt, "x"), 100, 0, "refused"}, {write("/a", math.MinInt, bytes(20000)), 100, 0, "refused"},
	} {
		if m, d := Need(c.o); m != c.m || d != c.d {
			t.Errorf("%s, %d at %d: %d, %d, want %d, %d", c.which, len(c.o.Data), c.o.Off, m, d, c.m, c.d)
		}
	}
}

// P19.1: without room nothing is changed, however far an op came.
func TestWithoutRoom(t *testing.T) {
	ops := []api.Op{mkdir("/d"), create("/d/a"), write("/d/a", 100, bytes(900)), link("/d/a", "/b"), truncate("/b", 300), rename("/d", "/e"), unlink("/b"), create("/" + strings.Repeat("n", 255)), write("/e/a", 0, bytes(1100)), unlink("/e/a"), rmdir("/e")}
	for sectors := 1; sectors < 60; sectors++ {
		for _, p := range []api.Policy{{}, {MetaFast: true}, {MetaFast: true, Mirror: true, Small: 256}} {
			x := begin(t, dev.New(sectors, max(1, 30-sectors)), p)
			for _, o := range ops {
				if x.do(t, o).Code != api.ErrFull {
					continue
				}
				alike(t, x.s, x.root, x.m, "/")
				x.settle(t)
				x.do(t, o)
			}
			alike(t, x.s, x.root, x.m, "/")
			kept(t, x.s, x.root, x.m)
		}
	}
}
