package tier

import (
	"fmt"
	"maps"
	"math"
	"math/rand"
	"slices"
	"strings"
	"testing"

	"permafrost/api"
	"permafrost/dev"
	"permafrost/fsys"
	"permafrost/heat"
	"permafrost/model"
	"permafrost/pool"
	"permafrost/ptr"
)

func create(p string) api.Op { return api.Op{Do: api.Create, Path: p} }

func mkdir(p string) api.Op { return api.Op{Do: api.Mkdir, Path: p} }

func link(p string, to string) api.Op { return api.Op{Do: api.Link, Path: p, To: to} }

func unlink(p string) api.Op { return api.Op{Do: api.Unlink, Path: p} }

func read(p string) api.Op { return api.Op{Do: api.Read, Path: p, Len: math.MaxInt} }

func stat(p string) api.Op { return api.Op{Do: api.Stat, Path: p} }

func list(p string) api.Op { return api.Op{Do: api.List, Path: p} }

func write(p string, off int, data string) api.Op {
	return api.Op{Do: api.Write, Path: p, Off: off, Data: data}
}

func truncate(p string, size int) api.Op { return api.Op{Do: api.Truncate, Path: p, Len: size} }

// text is so many chunks of one letter.
func text(chunks int) string { return strings.Repeat("x", chunks*api.Chunk) }

// same tells whether two answers are, a list that is nil being like an empty one.
func same(a api.Answer, b api.Answer) bool {
	return a.Code == b.Code && a.N == b.N && a.Data == b.Data && slices.Equal(a.Names, b.Names)
}

func made(t *testing.T, d *dev.Devs, p api.Policy) (*Tier, *pool.Pool) {
	t.Helper()
	disk, e := pool.Create(d, p)
	if e != api.OK {
		t.Fatalf("Create: %d", e)
	}
	return New(disk), disk
}

// do does what has to be OK, of the pool or of a tier.
func do(t *testing.T, ask func(api.Op) api.Answer, ops ...api.Op) {
	t.Helper()
	for _, o := range ops {
		if a := ask(o); a.Code != api.OK {
			t.Fatalf("%.80v: %v", o, a)
		}
	}
}

// touch reads files, each so many times.
func touch(t *testing.T, x *Tier, now int, times int, paths ...string) {
	t.Helper()
	for _, p := range paths {
		for range times {
			do(t, func(o api.Op) api.Answer { return x.Do(o, now) }, api.Op{Do: api.Read, Path: p})
		}
	}
}

func where(t *testing.T, x *Tier, p string, want ...int) {
	t.Helper()
	if l, e := x.Where(p); e != api.OK || !slices.Equal(l, want) {
		t.Errorf("%s: %v, %d, want %v", p, l, e, want)
	}
}

func step(t *testing.T, x *Tier, now int, n int, wantUp int, wantDown int) {
	t.Helper()
	if up, down := x.Step(now, n); up != wantUp || down != wantDown {
		t.Errorf("Step(%d, %d): %d, %d, want %d, %d", now, n, up, down, wantUp, wantDown)
	}
}

func hot(t *testing.T, x *Tier, now int, n int, want ...string) {
	t.Helper()
	if l := x.Hot(now, n); !slices.Equal(l, want) {
		t.Errorf("Hot(%d, %d): %q, want %q", now, n, l, want)
	}
}

func TestExample(t *testing.T) { // P21.2
	x, disk := made(t, dev.New(60, 60), api.Policy{})
	do(t, disk.Do, create("/a"), write("/a", 0, text(2)))
	touch(t, x, 1, 9, "/a")
	where(t, x, "/a", 0, 0)
	step(t, x, 1, 1, 2, 0)
	where(t, x, "/a", 1, 1)
}

func TestNothing(t *testing.T) { // P21.1, R1
	if New(nil) != nil {
		t.Error("New of nil")
	}
	other := New(&pool.Pool{}) // of a pool that is none
	if other == nil {
		t.Fatal("New of a pool")
	}
	for i, x := range []*Tier{nil, {}, other} {
		for n := -1; n < 13; n++ {
			if a := x.Do(api.Op{Do: n, Path: "/"}, 0); !same(a, api.Answer{Code: api.ErrArg}) {
				t.Errorf("%d: %v", i, a)
			}
		}
		for _, p := range []string{"/", "/a", "", "junk"} {
			if l, e := x.Where(p); len(l) > 0 || e != api.ErrArg {
				t.Errorf("%d: %v, %d", i, l, e)
			}
		}
		for _, now := range []int{math.MinInt, 0, math.MaxInt} {
			step(t, x, now, 9, 0, 0)
			hot(t, x, now, 9)
		}
	}
}

// P21.1: what is touched are the paths of what was read, or written to.
func TestDoTouches(t *testing.T) {
	x, _ := made(t, dev.New(60, 60), api.Policy{})
	m := model.New()
	for i, c := range []struct {
		o       api.Op
		touched bool
	}{
		{create("/a"), false}, {create("/a"), false}, {mkdir("/d"), false}, {link("/a", "/d/b"), false}, {stat("/a"), false}, {list("/d"), false}, {list("/"), false},
		{truncate("/a", 300), false}, {truncate("/a", -1), false},
		{api.Op{Do: api.Rename, Path: "/a", To: "/c"}, false}, {api.Op{Do: 11, Path: "/c"}, false}, {api.Op{Do: -1, Path: "/c"}, false},
		{read("/c"), true}, {read("/d/b"), true}, {api.Op{Do: api.Read, Path: "/c"}, true}, {api.Op{Do: api.Read, Path: "/c", Off: 999, Len: 1}, true},
		{read("/a"), false}, {read("/d"), false}, {read("/c/b"), false}, {read("c"), false}, {read("/"), false}, {api.Op{Do: api.Read, Path: "/c", Len: -1}, false}, {api.Op{Do: api.Read, Path: "/c", Off: -1}, false},
		{write("/c", 5, "text"), true}, {write("/d/b", 0, ""), true}, {write("/c", 0, "\x00"), true},
		{write("/a", 0, "x"), false}, {write("/d", 0, "x"), false}, {write("/c", -1, "x"), false}, {write("/c", api.MaxFile, "x"), false},
		{unlink("/d/b"), false}, {api.Op{Do: api.Rmdir, Path: "/d"}, false}, {read("/d/b"), false}, {unlink("/c"), false}, {read("/c"), false},
	} {
		if a := x.Do(c.o, i); !same(a, m.Do(c.o)) {
			t.Errorf("%.80v: %.80v", c.o, a)
		}
		l := x.Hot(i, 1)
		if c.touched && !slices.Equal(l, []string{c.o.Path}) || !c.touched && len(l) > 0 {
			t.Errorf("%.80v: touched is %q", c.o, l)
		}
		x.heat = heat.New()
	}
}

// P21.1: heat is that of package heat, by the ticks that are told.
func TestHot(t *testing.T) {
	r := rand.New(rand.NewSource(21))
	x, disk := made(t, dev.New(60, 60), api.Policy{})
	want := heat.New()
	var paths []string
	for i := range 8 {
		paths = append(paths, fmt.Sprint("/", i))
		do(t, disk.Do, create(paths[i]))
	}
	hot(t, x, 0, 9)
	ticks := []int{math.MinInt, -3, 0, 1, 2, 3, 40, math.MaxInt}
	for range 300 {
		p, now := paths[r.Intn(8)], r.Intn(10)
		if r.Intn(60) == 0 {
			now = ticks[r.Intn(len(ticks))]
		}
		touch(t, x, now, 1, p)
		want.Touch(p, now)
		for _, now := range append(ticks, r.Intn(12)) {
			for _, n := range []int{math.MinInt, 0, 1, 3, 8, math.MaxInt} {
				hot(t, x, now, n, want.Hot(now, n)...)
			}
		}
	}
	clear(x.Hot(0, 9)) // R5
	hot(t, x, 0, 9, want.Hot(0, 9)...)
}

// P21.1: another tier of the same pool has no heat of the first one's.
func TestNewHasNoHeat(t *testing.T) {
	x, disk := made(t, dev.New(60, 60), api.Policy{})
	do(t, disk.Do, create("/a"), write("/a", 0, "x"), read("/a")) // not by a tier
	hot(t, x, 0, 9)
	touch(t, x, 0, 1, "/a")
	other := New(disk)
	hot(t, other, 0, 9)
	step(t, other, 0, 9, 0, 0)
	step(t, x, 0, 9, 1, 0)
	where(t, other, "/a", 1) // for the pool is one
}

func TestWhere(t *testing.T) { // P21.1
	d := dev.New(100, 100)
	x, disk := made(t, d, api.Policy{Small: 9})
	do(t, disk.Do, create("/e"), create("/a"), write("/a", 0, text(2)+"small"), create("/s"), write("/s", 256, "small"), write("/s", 1024, text(1)), truncate("/s", 9999), mkdir("/d"), link("/a", "/d/b"))
	where(t, x, "/e")
	where(t, x, "/a", 0, 0, 1)
	where(t, x, "/d/b", 0, 0, 1)
	where(t, x, "/s", 1, 0) // chunks that have no block are none
	for i, devs := range [][]int{{0, 1}, {1, 0}, {1}} {
		if e := disk.Move("/a", 1, devs); e != api.OK {
			t.Fatalf("Move: %d", e)
		}
		where(t, x, "/a", 0, devs[0], 1)
		where(t, x, "/d/b", 0, devs[0], 1)
		if i == 0 {
			if e := disk.Snap("one"); e != api.OK {
				t.Fatalf("Snap: %d", e)
			}
		}
	}
	for p, want := range map[string]api.Errno{"/": api.ErrDir, "/d": api.ErrDir, "/x": api.ErrNone, "/d/x": api.ErrNone, "/a/b": api.ErrNotDir, "": api.ErrName, "a": api.ErrName, "/a/": api.ErrName, "/d/..": api.ErrName} {
		if l, e := x.Where(p); len(l) > 0 || e != want {
			t.Errorf("%q: %v, %d, want %d", p, l, e, want)
		}
	}
	hot(t, x, 0, 9) // it is asked of the tier, not of the file
	clear(first(x.Where("/a")))
	where(t, x, "/a", 0, 1, 1)
	if e := disk.Rollback("one"); e != api.OK {
		t.Fatalf("Rollback: %d", e)
	}
	where(t, x, "/a", 0, 0, 1)
	d.Lose(api.Fast) // where a block is needs no look at it
	where(t, x, "/a", 0, 0, 1)
	d.Lose(api.Slow)
	if l, e := x.Where("/a"); len(l) > 0 || e != api.ErrLost {
		t.Errorf("%v, %d", l, e)
	}
}

func first(l []int, _ api.Errno) []int { return l }

// P21.2: the first n of Hot to Fast, all others that were touched to Slow.
func TestStep(t *testing.T) {
	x, disk := made(t, dev.New(200, 200), api.Policy{})
	for i, p := range []string{"/a", "/b", "/c", "/d", "/never"} {
		do(t, disk.Do, create(p), write(p, 0, text(i+1)))
	}
	touch(t, x, 0, 4, "/c")
	touch(t, x, 0, 2, "/a", "/d")
	touch(t, x, 0, 1, "/b")
	for _, c := range []struct{ now, n, up, down int }{
		{0, 0, 0, 0}, {0, -1, 0, 0}, {0, math.MinInt, 0, 0},
		{0, 1, 3, 0}, {0, 1, 0, 0}, {math.MinInt, 1, 0, 0}, {1, 1, 0, 0},
		{0, 2, 1, 0}, {0, 3, 4, 0}, {0, 2, 0, 4}, {0, 4, 6, 0}, {0, 99, 0, 0}, {4, math.MaxInt, 0, 0},
		{5, 99, 0, 2},                                        // b is worth nothing any more
		{6, 99, 0, 5},                                        // nor are a, and d
		{6, 1, 0, 0}, {7, 99, 0, 3}, {math.MaxInt, 99, 0, 0}, // nor is c
		{0, 99, 10, 0}, {math.MaxInt, 99, 0, 10}, {math.MinInt, 99, 10, 0}, {0, 0, 0, 10},
	} {
		step(t, x, c.now, c.n, c.up, c.down)
		if e := disk.Sync(); e != api.OK { // so that there is room again
			t.Fatalf("Sync: %d", e)
		}
		for i, p := range []string{"/a", "/b", "/c", "/d"} {
			to := 0
			if slices.Contains(x.Hot(c.now, c.n), p) {
				to = 1
			}
			where(t, x, p, slices.Repeat([]int{to}, i+1)...)
		}
		where(t, x, "/never", 0, 0, 0, 0, 0)
	}
}

// P21.2: whenever a path was touched, and whenever the step is.
func TestStepAtAnyTick(t *testing.T) {
	ticks := []int{math.MinInt, -99, 0, 99, math.MaxInt}
	for _, tick := range ticks {
		x, disk := made(t, dev.New(100, 100), api.Policy{})
		do(t, disk.Do, create("/a"), write("/a", 0, text(1)))
		touch(t, x, tick, 1, "/a")
		for _, now := range ticks {
			if now <= tick {
				step(t, x, now, 1, 1, 0)
				step(t, x, now, 0, 0, 1)
			} else {
				step(t, x, tick, 1, 1, 0)
				step(t, x, now, 1, 0, 1)
			}
		}
	}
}

// P21.2: what was touched by no tier stays where it is, on Fast, too.
func TestStepLeavesOthers(t *testing.T) {
	x, disk := made(t, dev.New(60, 60), api.Policy{Small: 256})
	do(t, disk.Do, create("/a"), write("/a", 0, text(1)), create("/b"), write("/b", 0, text(1)), create("/c"), write("/c", 0, text(1)))
	if a := x.Do(read("/x"), 0); a.Code != api.ErrNone {
		t.Errorf("%v", a)
	}
	do(t, func(o api.Op) api.Answer { return x.Do(o, 0) }, stat("/b"), truncate("/b", 200), list("/"))
	touch(t, x, 0, 1, "/a")
	step(t, x, 0, 0, 0, 1)
	where(t, x, "/a", 0)
	where(t, x, "/b", 1)
	where(t, x, "/c", 1)
}

// P21.2: the hottest first, where there is not room for all; one that has no
// room keeps no other one from it.
func TestStepUpInOrder(t *testing.T) {
	for room := range 8 {
		x, disk := made(t, dev.New(200, 4+max(room, 1)), api.Policy{})
		if room == 0 {
			disk.Store().PutOn("fill", []int{api.Fast})
		}
		chunks := map[string]int{"/a": 1, "/b": 2, "/c": 2, "/d": 1}
		for p, n := range chunks {
			do(t, disk.Do, create(p), write(p, 0, text(n)))
		}
		touch(t, x, 0, 3, "/c")
		touch(t, x, 0, 2, "/a")
		touch(t, x, 0, 1, "/d", "/b") // these are worth the same
		step(t, x, 0, 9, min(room, 6), 0)
		rest := room
		for _, p := range []string{"/c", "/a", "/b", "/d"} {
			want := min(rest, chunks[p])
			rest -= want
			if l, _ := x.Where(p); count(l, api.Fast) != want {
				t.Errorf("room for %d: %s: %v, want %d", room, p, l, want)
			}
		}
	}
}

// count tells how often l has n.
func count(l []int, n int) int {
	c := 0
	for _, x := range l {
		if x == n {
			c++
		}
	}
	return c
}

// P21.2: to Slow by the paths, rising, whatever they are worth.
func TestStepDownInOrder(t *testing.T) {
	for room := range 7 {
		x, disk := made(t, dev.New(4+max(room, 1), 200), api.Policy{MetaFast: true, Small: 256})
		if room == 0 {
			disk.Store().PutOn("fill", []int{api.Slow})
		}
		files := []string{"/a", "/a-", "/b", "/hot"}
		for i, p := range files {
			do(t, disk.Do, create(p), write(p, 0, text([]int{2, 1, 2, 1}[i])))
		}
		touch(t, x, 0, 9, "/hot")
		touch(t, x, 0, 4, "/b")
		touch(t, x, 0, 3, "/a-")
		touch(t, x, 0, 2, "/a")
		step(t, x, 0, 1, 0, min(room, 5))
		where(t, x, "/hot", 1)
		rest := room
		for i, p := range files[:3] {
			want := min(rest, []int{2, 1, 2}[i])
			rest -= want
			if l, _ := x.Where(p); count(l, api.Slow) != want {
				t.Errorf("room for %d: %s: %v, want %d", room, p, l, want)
			}
		}
	}
}

// P21.2: what is left by one Step has room for what is hot by then, behind a Sync.
func TestStepRoom(t *testing.T) {
	x, disk := made(t, dev.New(200, 6), api.Policy{})
	do(t, disk.Do, create("/a"), write("/a", 0, text(2)), create("/b"), write("/b", 0, text(2)))
	touch(t, x, 0, 1, "/a")
	step(t, x, 0, 1, 2, 0)
	touch(t, x, 9, 1, "/b")
	step(t, x, 9, 1, 0, 2)
	where(t, x, "/a", 0, 0)
	where(t, x, "/b", 0, 0)
	if e := disk.Sync(); e != api.OK { // and what it was on is free only then
		t.Fatalf("Sync: %d", e)
	}
	step(t, x, 9, 1, 2, 0)
}

// P21.2: what has an error stays.
func TestStepErrors(t *testing.T) {
	d := dev.New(200, 100)
	x, disk := made(t, d, api.Policy{})
	for _, p := range []string{"/a", "/b", "/gone", "/dir"} {
		do(t, disk.Do, create(p), write(p, 0, text(3)))
	}
	touch(t, x, 0, 2, "/gone", "/dir")
	touch(t, x, 0, 1, "/a", "/b")
	do(t, disk.Do, unlink("/gone"), unlink("/dir"), mkdir("/dir"))
	refs, e := fsys.Chunks(disk.Store(), disk.Roots()[0], "/a")
	if e != api.OK {
		t.Fatalf("Chunks: %d", e)
	}
	p, _ := ptr.Decode(refs[1])
	d.Spoil(p.Locs[0], "harm")
	step(t, x, 0, 9, 5, 0)
	where(t, x, "/a", 1, 0, 1)
	where(t, x, "/b", 1, 1, 1)
	if a := disk.Do(api.Op{Do: api.Read, Path: "/a", Off: 512, Len: 999}); a.Data != text(1) {
		t.Errorf("%v", a)
	}
	if a := disk.Do(api.Op{Do: api.Read, Path: "/a", Off: 511, Len: 999}); a.Code != api.ErrLost {
		t.Errorf("%v", a)
	}
	hot(t, x, 0, 9, "/dir", "/gone", "/a", "/b")
	do(t, disk.Do, create("/gone"), write("/gone", 0, text(1))) // another file of that path
	step(t, x, 0, 9, 1, 0)
	where(t, x, "/gone", 1)
	d.Lose(api.Fast)
	do(t, disk.Do, write("/b", 0, text(3)), create("/c"), write("/c", 0, text(1)))
	touch(t, x, 0, 9, "/c")
	step(t, x, 0, 9, 0, 0)
	where(t, x, "/a", 1, 0, 1)
	where(t, x, "/c", 0)
	step(t, x, 0, 0, 0, 0) // /b is on Slow by now, and what is lost can't be read
	where(t, x, "/b", 0, 0, 0)
	where(t, x, "/a", 1, 0, 1)
	d.Lose(api.Slow)
	step(t, x, 0, 9, 0, 0)
	if len(x.Hot(0, 9)) != 5 {
		t.Errorf("%q", x.Hot(0, 9))
	}
}

// P21.2: paths are touched, and moved, not files.
func TestTwoNames(t *testing.T) {
	x, disk := made(t, dev.New(60, 60), api.Policy{})
	do(t, disk.Do, create("/a"), write("/a", 0, text(3)), link("/a", "/b"))
	touch(t, x, 0, 2, "/b")
	step(t, x, 0, 1, 3, 0)
	step(t, x, 0, 1, 0, 0)
	where(t, x, "/a", 1, 1, 1)
	touch(t, x, 0, 1, "/a")
	step(t, x, 0, 2, 0, 0)
	step(t, x, 0, 1, 0, 3) // hot by one name, and not by the other
	step(t, x, 0, 1, 3, 3)
	where(t, x, "/b", 0, 0, 0)
}

// P21.2: a chunk is where its first copy is; what is moved has one copy.
func TestTwoCopies(t *testing.T) {
	x, disk := made(t, dev.New(60, 60), api.Policy{})
	do(t, disk.Do, create("/a"), write("/a", 0, text(2)))
	touch(t, x, 0, 1, "/a")
	move := func(k int, devs ...int) {
		t.Helper()
		if e := disk.Move("/a", k, devs); e != api.OK {
			t.Fatalf("Move: %d", e)
		}
	}
	copies := func(want ...int) {
		t.Helper()
		refs, _ := fsys.Chunks(disk.Store(), disk.Roots()[0], "/a")
		var l []int
		for _, ref := range refs {
			p, _ := ptr.Decode(ref)
			l = append(l, len(p.Locs))
		}
		if !slices.Equal(l, want) {
			t.Errorf("%v copies, want %v", l, want)
		}
	}
	move(0, 0, 1)
	move(1, 1, 0)
	copies(2, 2)
	step(t, x, 0, 1, 1, 0)
	where(t, x, "/a", 1, 1)
	copies(1, 2)
	step(t, x, 0, 0, 0, 2)
	copies(1, 1)
	move(0, 0, 1)
	step(t, x, 0, 0, 0, 0)
	copies(2, 1)
}

// P21.2: nothing is committed by a Step.
func TestStepIsNotCommitted(t *testing.T) {
	d := dev.New(60, 60)
	x, disk := made(t, d, api.Policy{})
	do(t, disk.Do, create("/a"), write("/a", 0, text(2)))
	if e := disk.Sync(); e != api.OK {
		t.Fatalf("Sync: %d", e)
	}
	touch(t, x, 0, 1, "/a")
	step(t, x, 0, 1, 2, 0)
	if disk.Txg() != 2 {
		t.Errorf("%d", disk.Txg())
	}
	for _, sync := range []bool{false, true} {
		if sync {
			if e := disk.Sync(); e != api.OK {
				t.Fatalf("Sync: %d", e)
			}
		}
		d.Crash(nil)
		var e api.Errno
		if disk, e = pool.Mount(d, api.Policy{}); e != api.OK {
			t.Fatalf("Mount: %d", e)
		}
		x = New(disk)
		hot(t, x, 0, 9)
		want := 0
		if sync {
			want = 1
		}
		where(t, x, "/a", want, want)
		if a := disk.Do(read("/a")); a.Data != text(2) {
			t.Errorf("%v", a)
		}
		touch(t, x, 0, 1, "/a")
		step(t, x, 0, 1, 2-2*want, 0)
	}
}

// plain is what the document says of heat, and of a Step, by its words alone.
type plain struct {
	disk  *pool.Pool
	count map[string]int
	tick  map[string]int
}

func (m plain) worth(p string, now int) int {
	n := m.count[p]
	for i := m.tick[p]; i < now && n > 0; i++ {
		n /= 2
	}
	return n
}

func (m plain) do(o api.Op, now int) api.Answer {
	a := m.disk.Do(o)
	if a.Code == api.OK && (o.Do == 6 || o.Do == 7) {
		if _, is := m.tick[o.Path]; !is {
			m.tick[o.Path] = now
		}
		m.count[o.Path] = m.worth(o.Path, now) + 16
		m.tick[o.Path] = max(now, m.tick[o.Path])
	}
	return a
}

func (m plain) hot(now int, n int) []string {
	var l []string
	for len(l) < n {
		best := ""
		for _, p := range slices.Sorted(maps.Keys(m.count)) {
			if m.worth(p, now) > 0 && !slices.Contains(l, p) && (best == "" || m.worth(p, now) > m.worth(best, now)) {
				best = p
			}
		}
		if best == "" {
			break
		}
		l = append(l, best)
	}
	return l
}

func (m plain) move(p string, to int) int {
	refs, _ := fsys.Chunks(m.disk.Store(), m.disk.Roots()[0], p)
	n := 0
	for k, ref := range refs {
		if ref == "" {
			continue
		}
		if x, _ := ptr.Decode(ref); x.Locs[0].Dev == to {
			continue
		}
		if m.disk.Move(p, k, []int{to}) == api.OK {
			n++
		}
	}
	return n
}

func (m plain) step(now int, n int) (int, int) {
	up, down := 0, 0
	l := m.hot(now, n)
	for _, p := range l {
		up += m.move(p, 1)
	}
	for _, p := range slices.Sorted(maps.Keys(m.count)) {
		if !slices.Contains(l, p) {
			down += m.move(p, 0)
		}
	}
	return up, down
}

func anyPolicy(r *rand.Rand) api.Policy {
	return api.Policy{MetaFast: r.Intn(2) == 0, Mirror: r.Intn(2) == 0, Small: r.Intn(2) * r.Intn(257), Arc: r.Intn(2) * (1 + r.Intn(20)), Second: r.Intn(2) * r.Intn(30)}
}

func anyOp(r *rand.Rand) api.Op {
	numbers := []int{0, 0, 255, 256, 300, 512, 16384, -1, r.Intn(1500), r.Intn(1500)}
	anyPath := func() string {
		p := ""
		for range 1 + r.Intn(3)*r.Intn(3)/2 {
			p += "/" + string("abc"[r.Intn(3)])
		}
		return p
	}
	return api.Op{
		Do: []int{0, 0, 0, 1, 2, 3, 4, 5, 6, 6, 6, 7, 7, 7, 8, 9, 10, 11}[r.Intn(18)], Path: anyPath(), To: anyPath(),
		Off: numbers[r.Intn(len(numbers))], Len: numbers[r.Intn(len(numbers))],
		Data: strings.Repeat(fmt.Sprint(r.Intn(100)), r.Intn(2)*r.Intn(250)),
	}
}

// P21.1, P21.2, R6: a tier does what its words say, on devices of any sizes; the
// same pool, of which the same was asked, has the same root then.
func TestAgainstTheWords(t *testing.T) {
	r := rand.New(rand.NewSource(2102))
	ups, downs := 0, 0
	for range 60 {
		p, slow, fast := anyPolicy(r), 60+r.Intn(100), 40+r.Intn(100)
		x, disk := made(t, dev.New(slow, fast), p)
		_, twin := made(t, dev.New(slow, fast), p)
		m := plain{disk: twin, count: map[string]int{}, tick: map[string]int{}}
		for now := range 100 {
			o, at := anyOp(r), now/4+r.Intn(3)
			if a := x.Do(o, at); !same(a, m.do(o, at)) {
				t.Fatalf("%.80v: %.80v", o, a)
			}
			at, n := now/4+r.Intn(4), r.Intn(8)-1
			hot(t, x, at, n, m.hot(at, n)...)
			if r.Intn(6) == 0 {
				up, down := m.step(at, n)
				step(t, x, at, n, up, down)
				ups, downs = ups+up, downs+down
			}
			if !slices.Equal(disk.Roots(), twin.Roots()) {
				t.Fatalf("Step(%d, %d): the roots are not the same", at, n)
			}
			if r.Intn(20) == 0 && disk.Sync() != twin.Sync() {
				t.Fatal("Sync")
			}
		}
	}
	if ups < 100 || downs < 100 {
		t.Errorf("only %d, %d were moved", ups, downs)
	}
}

// alike asks for all that m has.
func alike(t *testing.T, disk *pool.Pool, m *model.Tree, p string) {
	t.Helper()
	for _, o := range []api.Op{stat(p), list(p), read(p)} {
		if a, want := disk.Do(o), m.Do(o); !same(a, want) {
			t.Fatalf("%.80v: %.300v, want %.300v", o, a, want)
		}
	}
	for _, name := range m.Do(list(p)).Names {
		alike(t, disk, m, strings.TrimSuffix(p, "/")+"/"+name)
	}
}

// P21.3, P1, P4, P5: where chunks are changes no answer, by any policy, and
// behind a crash.
func TestAnswersStay(t *testing.T) {
	r := rand.New(rand.NewSource(2103))
	for range 40 {
		p := anyPolicy(r)
		d := dev.New(512, 100+r.Intn(400))
		x, disk := made(t, d, p)
		m := model.New()
		committed := m.Copy()
		for now := range 120 {
			o := anyOp(r)
			if a := x.Do(o, now/9); a.Code != api.ErrFull {
				if want := m.Do(o); !same(a, want) {
					t.Fatalf("%.80v: %.300v, want %.300v", o, a, want)
				}
			}
			switch r.Intn(12) {
			case 0, 1:
				x.Step(now/9+r.Intn(9), r.Intn(6))
				alike(t, disk, m, "/")
			case 2:
				if e := disk.Sync(); e != api.OK {
					t.Fatalf("Sync: %d", e)
				}
				committed = m.Copy()
			case 3:
				d.Crash(make([]bool, 9))
				var e api.Errno
				if disk, e = pool.Mount(d, p); e != api.OK {
					t.Fatalf("Mount: %d", e)
				}
				x, m = New(disk), committed.Copy()
				alike(t, disk, m, "/")
			}
		}
	}
}
