package census

import (
	"fmt"
	"math"
	"math/rand"
	"slices"
	"strings"
	"testing"

	"permafrost/api"
	"permafrost/blk"
	"permafrost/dev"
	"permafrost/fsys"
	"permafrost/model"
	"permafrost/pool"
	"permafrost/ptr"
)

func create(p string) api.Op { return api.Op{Do: api.Create, Path: p} }

func mkdir(p string) api.Op { return api.Op{Do: api.Mkdir, Path: p} }

func link(p string, to string) api.Op { return api.Op{Do: api.Link, Path: p, To: to} }

func unlink(p string) api.Op { return api.Op{Do: api.Unlink, Path: p} }

func read(p string) api.Op { return api.Op{Do: api.Read, Path: p, Len: math.MaxInt} }

func stat(p string) api.Op { return api.Op{Do: api.Stat, Path: p} }

func list(p string) api.Op { return api.Op{Do: api.List, Path: p} }

func write(p string, off int, data string) api.Op {
	return api.Op{Do: api.Write, Path: p, Off: off, Data: data}
}

// text is so many chunks of one letter.
func text(chunks int) string { return strings.Repeat("x", chunks*api.Chunk) }

// mirrored has two copies of metadata, and small data on Fast alone.
func mirrored() api.Policy { return api.Policy{MetaFast: true, Mirror: true, Small: 10} }

// same tells whether two answers are, a list that is nil being like an empty one.
func same(a api.Answer, b api.Answer) bool {
	return a.Code == b.Code && a.N == b.N && a.Data == b.Data && slices.Equal(a.Names, b.Names)
}

func ok(t *testing.T, e api.Errno) {
	t.Helper()
	if e != api.OK {
		t.Fatalf("error %d", e)
	}
}

func made(t *testing.T, d *dev.Devs, p api.Policy) *pool.Pool {
	t.Helper()
	x, e := pool.Create(d, p)
	ok(t, e)
	return x
}

func mount(t *testing.T, d *dev.Devs, p api.Policy) *pool.Pool {
	t.Helper()
	x, e := pool.Mount(d, p)
	ok(t, e)
	return x
}

// do does what has to be OK.
func do(t *testing.T, x *pool.Pool, ops ...api.Op) {
	t.Helper()
	for _, o := range ops {
		if a := x.Do(o); a.Code != api.OK {
			t.Fatalf("%.80v: %v", o, a)
		}
	}
}

func blocks(t *testing.T, x *pool.Pool, want Count) {
	t.Helper()
	if c, e := Blocks(x); c != want || e != api.OK {
		t.Errorf("Blocks: %v, %d, want %v", c, e, want)
	}
}

func scrub(t *testing.T, x *pool.Pool, all int, written int, lost int) {
	t.Helper()
	if a, w, l, e := Scrub(x); a != all || w != written || l != lost || e != api.OK {
		t.Errorf("Scrub: %d, %d, %d, %d, want %d, %d, %d", a, w, l, e, all, written, lost)
	}
}

func paths(t *testing.T, x *pool.Pool, want ...string) {
	t.Helper()
	if l, e := Paths(x); !slices.Equal(l, want) || e != api.OK {
		t.Errorf("Paths: %q, %d, want %q", l, e, want)
	}
}

func needs(t *testing.T, x *pool.Pool, want bool, bad ...api.Loc) {
	t.Helper()
	if is, e := Needs(x, bad); is != want || e != api.OK {
		t.Errorf("Needs(%v): %v, %d, want %v", bad, is, e, want)
	}
}

// pointed tells the pointers of all blocks that a pool has.
func pointed(t *testing.T, x *pool.Pool) []api.Ptr {
	t.Helper()
	refs, e := x.Refs()
	ok(t, e)
	var l []api.Ptr
	for _, ref := range refs {
		p, e := ptr.Decode(ref)
		ok(t, e)
		l = append(l, p)
	}
	return l
}

// sample is a pool with a node on both devices, two blocks of data on Slow, and
// one on Fast.
func sample(t *testing.T, d *dev.Devs) *pool.Pool {
	t.Helper()
	x := made(t, d, mirrored())
	do(t, x, create("/a"), write("/a", 0, "small"), create("/b"), write("/b", 0, text(2)))
	ok(t, x.Sync())
	return x
}

func TestExample(t *testing.T) { // P22.1, P22.2, P22.3, P22.4
	x := made(t, dev.New(60, 60), api.Policy{})
	blocks(t, x, Count{})
	paths(t, x, "/")
	scrub(t, x, 0, 0, 0)
	needs(t, x, false)
	needs(t, x, false, api.Loc{}, api.Loc{Dev: 1, At: 4})
}

func TestNothing(t *testing.T) { // P22.1, P22.2, P22.3, P22.4, R1
	for i, x := range []*pool.Pool{nil, {}} {
		if c, e := Blocks(x); c != (Count{}) || e != api.ErrArg {
			t.Errorf("%d: Blocks: %v, %d", i, c, e)
		}
		if a, w, l, e := Scrub(x); a != 0 || w != 0 || l != 0 || e != api.ErrArg {
			t.Errorf("%d: Scrub: %d, %d, %d, %d", i, a, w, l, e)
		}
		if l, e := Paths(x); len(l) > 0 || e != api.ErrArg {
			t.Errorf("%d: Paths: %q, %d", i, l, e)
		}
		for _, bad := range [][]api.Loc{nil, {{Dev: -1, At: math.MinInt}}} {
			if is, e := Needs(x, bad); is || e != api.ErrArg {
				t.Errorf("%d: Needs: %v, %d", i, is, e)
			}
		}
	}
}

func TestBlocks(t *testing.T) { // P22.1
	d := dev.New(100, 100)
	x := sample(t, d)
	blocks(t, x, Count{4, 3, 2, 1})
	ok(t, x.Move("/b", 0, []int{1})) // what is not committed counts; what nothing leads to does not
	blocks(t, x, Count{4, 2, 3, 2})
	ok(t, x.Move("/b", 1, []int{1, 0}))
	blocks(t, x, Count{4, 2, 4, 2})
	ok(t, x.Snap("s"))
	blocks(t, x, Count{4, 2, 4, 2}) // each once
	do(t, x, unlink("/b"))
	blocks(t, x, Count{5, 3, 5, 2}) // another node
	do(t, x, unlink("/a"))
	blocks(t, x, Count{4, 2, 4, 2})
	ok(t, x.Snap("none"))
	blocks(t, x, Count{4, 2, 4, 2})
	ok(t, x.Destroy("s"))
	blocks(t, x, Count{})
}

// P22.1: where blocks are is told, whatever became of them.
func TestBlocksOfLost(t *testing.T) {
	d := dev.New(100, 100)
	x := sample(t, d)
	for _, p := range pointed(t, x) {
		if ptr.On(p, api.Slow) != ptr.On(p, api.Fast) { // data
			d.Spoil(p.Locs[0], "harm")
		}
	}
	blocks(t, x, Count{4, 3, 2, 1})
	d.Lose(api.Fast)
	blocks(t, x, Count{4, 3, 2, 1})
	do(t, x, create("/c")) // its node comes to Slow alone
	blocks(t, x, Count{4, 3, 1, 1})
}

// lost asks a pool of which the blocks can't be told.
func lost(t *testing.T, x *pool.Pool, want api.Errno) {
	t.Helper()
	if c, e := Blocks(x); c != (Count{}) || e != want {
		t.Errorf("Blocks: %v, %d", c, e)
	}
	d := x.Store().Devs()
	waits := len(d.Waits())
	if a, w, l, e := Scrub(x); a != 0 || w != 0 || l != 0 || e != want || len(d.Waits()) != waits {
		t.Errorf("Scrub: %d, %d, %d, %d", a, w, l, e)
	}
	var all []api.Loc
	for side := range 2 {
		for at := range d.Size(side) {
			all = append(all, api.Loc{Dev: side, At: at})
		}
	}
	for _, bad := range [][]api.Loc{nil, all} {
		if is, e := Needs(x, bad); is || e != want {
			t.Errorf("Needs: %v, %d", is, e)
		}
	}
}

// P22.1, P22.2, P22.4: pool.Refs' error; P22.3: an answer's.
func TestLost(t *testing.T) {
	d := dev.New(100, 100)
	x := sample(t, d)
	ok(t, x.Snap("s"))
	do(t, x, create("/c"))
	l := x.Roots()
	spoil := func(ref string) {
		p, e := ptr.Decode(ref)
		ok(t, e)
		for _, at := range p.Locs {
			d.Spoil(at, "harm")
		}
	}
	spoil(l[1])
	lost(t, x, api.ErrLost)
	paths(t, x, "/", "/a", "/b", "/c") // these are none of the snapshot's
	spoil(l[0])
	lost(t, x, api.ErrLost)
	if l, e := Paths(x); len(l) > 0 || e != api.ErrLost {
		t.Errorf("%q, %d", l, e)
	}
	ok(t, x.Rollback("s"))
	lost(t, x, api.ErrLost)
}

func TestScrub(t *testing.T) { // P22.2
	d := dev.New(100, 100)
	x := sample(t, d)
	scrub(t, x, 4, 0, 0)
	var both api.Ptr
	for _, p := range pointed(t, x) {
		if len(p.Locs) == 2 {
			both = p
		}
	}
	good, _, _ := blk.Read(d, both)
	for i, at := range both.Locs {
		for _, harm := range []string{"", "harm", good + "x", good[1:], strings.Repeat("x", len(good))} {
			d.Spoil(at, harm)
			scrub(t, x, 4, 1, 0)
			scrub(t, x, 4, 0, 0) // the write that waits is read
			if l := d.Waits(); !slices.Equal(l, []api.Loc{at}) {
				t.Errorf("%v wait", l)
			}
			d.Crash(nil) // as nothing is flushed
			if l := blk.Good(d, both); l[i] || !l[1-i] {
				t.Errorf("%v is flushed", at)
			}
			scrub(t, x, 4, 1, 0)
			d.Flush()
			if s, _ := d.Read(at); s != good {
				t.Errorf("%v has %q", at, s)
			}
			scrub(t, x, 4, 0, 0)
		}
	}
	d.Spoil(api.Loc{Dev: 0, At: 90}, "harm") // no block is there
	d.Spoil(api.Loc{Dev: 1, At: 2}, "harm")
	scrub(t, x, 4, 0, 0)
	if len(d.Waits()) > 0 {
		t.Errorf("%v wait", d.Waits())
	}
}

func TestScrubOfLost(t *testing.T) { // P22.2
	d := dev.New(100, 100)
	x := sample(t, d)
	harmed := 0
	for _, p := range pointed(t, x) {
		if len(p.Locs) == 1 {
			d.Spoil(p.Locs[0], "harm")
			harmed++
			scrub(t, x, 4, 0, harmed)
		}
	}
	for _, p := range pointed(t, x) {
		if len(p.Locs) == 2 {
			d.Spoil(p.Locs[1], "harm")
		}
	}
	scrub(t, x, 4, 1, 3)
	d.Flush()
	d.Lose(api.Slow) // a device that is lost is not written to
	scrub(t, x, 4, 0, 3)
	if len(d.Waits()) > 0 {
		t.Errorf("%v wait", d.Waits())
	}
}

// P22.2: blocks of snapshots are mended, and each once.
func TestScrubOfSnapshots(t *testing.T) {
	d := dev.New(100, 100)
	x := sample(t, d)
	for _, name := range []string{"s", "t", "u"} {
		ok(t, x.Snap(name))
	}
	do(t, x, create("/c"))
	ok(t, x.Sync())
	for _, root := range x.Roots() {
		p, e := ptr.Decode(root)
		ok(t, e)
		d.Spoil(p.Locs[0], "harm")
	}
	scrub(t, x, 5, 2, 0)
	if len(d.Waits()) != 2 {
		t.Errorf("%v wait", d.Waits())
	}
	d.Flush()
	d.Lose(api.Slow)
	for _, name := range x.Snaps() {
		if a := x.See(name, list("/")); !slices.Equal(a.Names, []string{"a", "b"}) {
			t.Errorf("%v", a)
		}
	}
}

func TestPaths(t *testing.T) { // P22.3
	x := made(t, dev.New(200, 200), api.Policy{})
	long := strings.Repeat("n", 255)
	do(t, x, mkdir("/d"), create("/d/f"), create("/d-"), create("/d0"), create("/\xff"), create("/\x01"), mkdir("/D"), mkdir("/d/d"), mkdir("/d/d/d"), create("/d/d/d/"+long), link("/d0", "/d/d/0"), link("/d0", "/d/...."))
	// a blank, and a `-`, come ahead of `/`, digits behind it
	paths(t, x, "/", "/\x01", "/D", "/d", "/d-", "/d/....", "/d/d", "/d/d/0", "/d/d/d", "/d/d/d/"+long, "/d/f", "/d0", "/\xff")
	ok(t, x.Snap("s"))
	do(t, x, api.Op{Do: api.Rename, Path: "/d", To: "/D/e"}, unlink("/d-"), unlink("/\xff"))
	paths(t, x, "/", "/\x01", "/D", "/D/e", "/D/e/....", "/D/e/d", "/D/e/d/0", "/D/e/d/d", "/D/e/d/d/"+long, "/D/e/f", "/d0")
	clear(first(Paths(x))) // R5
	ok(t, x.Rollback("s"))
	paths(t, x, "/", "/\x01", "/D", "/d", "/d-", "/d/....", "/d/d", "/d/d/0", "/d/d/d", "/d/d/d/"+long, "/d/f", "/d0", "/\xff")
}

func first(l []string, _ api.Errno) []string { return l }

// P22.3: as many as there are, in one directory, and one below the other.
func TestManyPaths(t *testing.T) {
	x := made(t, dev.New(512, 512), api.Policy{})
	wide := []string{"/"}
	for i := range 300 {
		wide = append(wide, fmt.Sprint("/", i))
		if i == 0 {
			do(t, x, create("/0"))
		} else {
			do(t, x, link("/0", wide[i+1]))
		}
		if i%20 == 0 {
			ok(t, x.Sync())
		}
	}
	slices.Sort(wide)
	paths(t, x, wide...)

	x = made(t, dev.New(512, 512), api.Policy{})
	high := []string{"/"}
	for i := range 80 {
		high = append(high, strings.Repeat("/d", i+1))
		do(t, x, mkdir(high[i+1]))
		if i%20 == 0 {
			ok(t, x.Sync())
		}
	}
	paths(t, x, high...)
}

// walk tells all paths of a model's tree, from one on.
func walk(m *model.Tree, p string) []string {
	l := []string{p}
	for _, name := range m.Do(list(p)).Names {
		l = append(l, walk(m, strings.TrimSuffix(p, "/")+"/"+name)...)
	}
	return l
}

// P22.3: whichever block is lost, what is told is right, or it can't be told. What
// no answer needs is of no moment, be it a chunk, or a node of chunks alone.
func TestPathsOfLost(t *testing.T) {
	d := dev.New(200, 200)
	x := made(t, d, api.Policy{})
	do(t, x, mkdir("/d"), create("/z"), write("/z", 0, text(60)))
	for i := range 30 {
		do(t, x, create(fmt.Sprint("/d/", strings.Repeat("n", 60), i)))
	}
	want, e := Paths(x)
	ok(t, e)
	ok(t, x.Sync())
	var told [3]int // of no moment: chunks, and nodes; and of moment
	for _, p := range pointed(t, x) {
		was, _ := d.Read(p.Locs[0])
		d.Spoil(p.Locs[0], "harm")
		_, isNode := x.Refs()
		l, e := Paths(x)
		switch {
		case e == api.ErrLost && len(l) == 0:
			told[2]++
		case e != api.OK || !slices.Equal(l, want):
			t.Errorf("%d paths, %d", len(l), e)
		case isNode == api.OK:
			told[0]++
		default:
			told[1]++
		}
		d.Spoil(p.Locs[0], was)
	}
	if told[0] != 60 || told[1] == 0 || told[2] < 3 {
		t.Errorf("%v", told)
	}
	paths(t, x, want...)
}

func TestNeeds(t *testing.T) { // P22.4
	x := sample(t, dev.New(100, 100))
	slow, fast := api.Loc{Dev: 0, At: 99}, api.Loc{Dev: 1, At: 99} // no block is there
	odd := []api.Loc{{Dev: 2, At: 4}, {Dev: -1, At: 4}, {Dev: 0, At: -1}, {Dev: 1, At: math.MaxInt}}
	needs(t, x, false)
	needs(t, x, false, slow, fast, slow)
	needs(t, x, false, odd...)
	for _, p := range pointed(t, x) {
		a := p.Locs[0]
		if len(p.Locs) == 1 {
			needs(t, x, true, a)
			needs(t, x, true, slow, a, fast, a)
			needs(t, x, true, append(odd, a)...)
			needs(t, x, false, api.Loc{Dev: 1 - a.Dev, At: a.At + 50}, api.Loc{Dev: a.Dev, At: a.At + 50})
			continue
		}
		b := p.Locs[1]
		needs(t, x, false, a)
		needs(t, x, false, b, b)
		needs(t, x, true, a, b)
		needs(t, x, true, b, slow, a)
	}
	ok(t, x.Snap("s"))
	at := pointed(t, x)[0].Locs
	for _, p := range []string{"/a", "/b"} {
		do(t, x, unlink(p))
	}
	needs(t, x, true, at...) // of the snapshot
	ok(t, x.Destroy("s"))
	needs(t, x, false, at...)
}

func anyPolicy(r *rand.Rand) api.Policy {
	return api.Policy{MetaFast: r.Intn(2) == 0, Mirror: r.Intn(3) > 0, Small: r.Intn(2) * r.Intn(257), Arc: r.Intn(2) * (1 + r.Intn(20)), Second: r.Intn(2) * r.Intn(30)}
}

func anyOp(r *rand.Rand) api.Op {
	numbers := []int{0, 0, 255, 256, 300, 512, 16384, -1, r.Intn(1500), r.Intn(1500)}
	anyPath := func() string {
		p := ""
		for range 1 + r.Intn(3)*r.Intn(3)/2 {
			p += "/" + string("a-\xff"[r.Intn(3)])
		}
		return p
	}
	return api.Op{
		Do: []int{0, 0, 0, 1, 1, 2, 3, 4, 5, 6, 7, 7, 7, 8, 9, 10}[r.Intn(16)], Path: anyPath(), To: anyPath(),
		Off: numbers[r.Intn(len(numbers))], Len: numbers[r.Intn(len(numbers))],
		Data: strings.Repeat(fmt.Sprint(r.Intn(100)), r.Intn(2)*r.Intn(250)),
	}
}

// grow does whatever to a pool, and tells the model's tree.
func grow(t *testing.T, r *rand.Rand, x *pool.Pool, steps int) *model.Tree {
	t.Helper()
	m := model.New()
	for range steps {
		o := anyOp(r)
		if a := x.Do(o); a.Code != api.ErrFull {
			if want := m.Do(o); !same(a, want) {
				t.Fatalf("%.80v: %.300v, want %.300v", o, a, want)
			}
		}
		switch r.Intn(30) {
		case 0:
			x.Snap(fmt.Sprint(r.Intn(5)))
		case 1:
			x.Destroy(fmt.Sprint(r.Intn(5)))
		case 2:
			x.Move(o.Path, r.Intn(3), [][]int{{0}, {1}, {0, 1}, {1, 0}}[r.Intn(4)])
		case 3, 4:
			ok(t, x.Sync())
		}
	}
	return m
}

// P22.1 to P22.4, by their words alone: of any pool.
func TestAgainstTheWords(t *testing.T) {
	r := rand.New(rand.NewSource(22))
	for range 80 {
		d := dev.New(100+r.Intn(200), 60+r.Intn(200))
		x := made(t, d, anyPolicy(r))
		m := grow(t, r, x, 80)
		want := walk(m, "/")
		slices.Sort(want)
		paths(t, x, want...)
		l := pointed(t, x)
		c := Count{All: len(l)}
		for _, p := range l {
			on := [2]int{}
			for _, at := range p.Locs {
				on[at.Dev] = 1
			}
			c.Slow, c.Fast, c.Only = c.Slow+on[0], c.Fast+on[1], c.Only+on[1]*(1-on[0])
		}
		blocks(t, x, c)
		var bad []api.Loc
		for range r.Intn(60) {
			at := api.Loc{Dev: r.Intn(2), At: 4 + r.Intn(40)}
			bad = append(bad, at)
		}
		isNeeded := slices.ContainsFunc(l, func(p api.Ptr) bool {
			return slices.Contains(bad, p.Locs[0]) && slices.Contains(bad, p.Locs[len(p.Locs)-1])
		})
		needs(t, x, isNeeded, bad...)
		for _, at := range bad {
			d.Spoil(at, "harm")
		}
		if _, e := x.Refs(); e != api.OK {
			lost(t, x, e)
			continue
		}
		written, gone := 0, 0
		for _, p := range l {
			good := 0
			for _, is := range blk.Good(d, p) {
				if is {
					good++
				}
			}
			if good == 0 {
				gone++
			} else {
				written += len(p.Locs) - good
			}
		}
		if isNeeded != (gone > 0) {
			t.Errorf("%d lost", gone)
		}
		scrub(t, x, len(l), written, gone)
		scrub(t, x, len(l), 0, gone)
	}
}

// alike asks for all that m has.
func alike(t *testing.T, x *pool.Pool, m *model.Tree) {
	t.Helper()
	for _, p := range walk(m, "/") {
		for _, o := range []api.Op{stat(p), list(p), read(p)} {
			if a, want := x.Do(o), m.Do(o); !same(a, want) {
				t.Fatalf("%.80v: %.300v, want %.300v", o, a, want)
			}
		}
	}
}

// P22.5, P7: without Only, the fast device may be lost; with it, something is.
func TestFastMayBeLost(t *testing.T) {
	r := rand.New(rand.NewSource(2205))
	without, with := 0, 0
	for range 200 {
		p := anyPolicy(r)
		d := dev.New(400, 200)
		x := made(t, d, p)
		m := grow(t, r, x, 30)
		ok(t, x.Sync())
		c, e := Blocks(x)
		ok(t, e)
		var all []api.Loc
		for at := range d.Size(api.Fast) {
			all = append(all, api.Loc{Dev: api.Fast, At: at})
		}
		needs(t, x, c.Only > 0, all...)
		d.Lose(api.Fast)
		d.Crash(nil)
		x = mount(t, d, p)
		if c.Only == 0 {
			without++
			alike(t, x, m)
			blocks(t, x, c)
			scrub(t, x, c.All, 0, 0)
			continue
		}
		with++
		if _, _, gone, e := Scrub(x); e != api.ErrLost && gone != c.Only {
			t.Errorf("%d lost, %d, want %d", gone, e, c.Only)
		}
	}
	if without < 30 || with < 30 {
		t.Errorf("only %d without, %d with", without, with)
	}
}

// P22.2: what was scrubbed is whole behind the loss of either device.
func TestScrubbedIsWhole(t *testing.T) {
	r := rand.New(rand.NewSource(2202))
	whole := 0
	for i := range 30 {
		d := dev.New(300, 300)
		x := made(t, d, api.Policy{MetaFast: true, Mirror: true})
		m := grow(t, r, x, 40)
		for _, p := range walk(m, "/") {
			l, _ := fsys.Chunks(x.Store(), x.Roots()[0], p)
			for k := range l {
				x.Move(p, k, []int{0, 1})
			}
		}
		ok(t, x.Sync())
		bad := 0
		for _, p := range pointed(t, x) {
			if n := r.Intn(4); n < len(p.Locs) && len(p.Locs) == 2 {
				d.Spoil(p.Locs[n], "harm")
				bad++
			}
		}
		scrub(t, x, len(pointed(t, x)), bad, 0)
		d.Flush()
		if c, _ := Blocks(x); c.Slow < c.All || c.Fast < c.All { // snapshots may have blocks of one copy
			continue
		}
		whole++
		d.Lose(i % 2)
		alike(t, x, m)
	}
	if whole < 5 {
		t.Errorf("only %d had two copies of all", whole)
	}
}
