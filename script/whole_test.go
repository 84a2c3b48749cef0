package script

import (
	"fmt"
	"maps"
	"math/rand"
	"slices"
	"strconv"
	"strings"
	"testing"

	"permafrost/api"
	"permafrost/class"
	"permafrost/clog"
	"permafrost/fsys"
	"permafrost/model"
	"permafrost/sum"
	"permafrost/uber"
)

// What the document promises of the whole, P1 to P9, and P23.3: a desk, and
// beside it what it should be, by the model.

// state is what a pool should have.
type state struct {
	now   *model.Tree
	snaps map[string]*model.Tree
}

func newState() state { return state{model.New(), map[string]*model.Tree{}} }

func (s state) twin() state {
	c := state{s.now.Copy(), map[string]*model.Tree{}}
	for name, x := range s.snaps {
		c.snaps[name] = x.Copy()
	}
	return c
}

// below is a directory's entry's path.
func below(dir string, name string) string { return strings.TrimSuffix(dir, "/") + "/" + name }

// walk is all paths of a tree, rising.
func walk(m *model.Tree, p string) []string {
	l := []string{p}
	for _, name := range m.Do(listOp(p)).Names {
		l = append(l, walk(m, below(p, name))...)
	}
	slices.Sort(l)
	return l
}

// world is a desk, and what it should be.
type world struct {
	t      *testing.T
	d      *Desk
	has    state
	past   map[int]state // what was committed, by its number
	txg    int
	harmed bool // then what is asked may be lost
	full   int  // how often there was no room
	lost   int  // how often something was lost
}

func newWorld(t *testing.T, slow int, fast int, p api.Policy) *world {
	t.Helper()
	w := &world{t: t, d: made(t, slow, fast, p), has: newState(), past: map[int]state{}}
	w.commit()
	return w
}

func (w *world) commit() {
	w.txg++
	w.past[w.txg] = w.has.twin()
}

func (w *world) fail(x Item, got any, want any) {
	w.t.Helper()
	w.t.Fatalf("%s: %s, want %s", brief(x), brief(got), brief(want))
}

// names are the snapshots', rising.
func (w *world) names() []string { return slices.Sorted(maps.Keys(w.has.snaps)) }

// mayCommit tells whether a device has the sector of the next root.
func (w *world) mayCommit() bool {
	at := (w.txg + 1) % api.Ring
	for side := range 2 {
		if w.d.Size(side) > at && !w.d.Lost(side) {
			return true
		}
	}
	return false
}

// do has x happen, and looks at the answer.
func (w *world) do(x Item) {
	w.t.Helper()
	switch x.Do {
	case ask:
		w.ask(x)
	case see:
		m, is := w.has.snaps[x.Name]
		switch {
		case !is:
			w.answers(x, code(api.ErrNone))
		case x.O.Do != api.Read && x.O.Do != api.Stat && x.O.Do != api.List:
			w.answers(x, code(api.ErrArg))
		default:
			w.answers(x, m.Do(x.O))
		}
	case sync, snap, rollback, destroy:
		w.sync(x)
	case crash:
		w.crash(x)
	case snaps:
		w.answers(x, named(0, w.names()...))
	case paths:
		w.answers(x, named(0, walk(w.has.now, "/")...))
	case scrub:
		if a := w.d.Do(x); !w.harmed && !same(a, named(0, "0")) || a.Code != api.OK && a.Code != api.ErrLost {
			w.fail(x, a, "nothing mended")
		}
	default:
		if a := w.d.Do(x); a.Code != api.OK || a.Data != "" {
			w.fail(x, a, "OK")
		}
	}
}

// answers does what changes nothing.
func (w *world) answers(x Item, want api.Answer) {
	w.t.Helper()
	a := w.d.Do(x)
	if w.harmed && same(a, code(api.ErrLost)) {
		w.lost++
		return
	}
	if !same(a, want) {
		w.fail(x, a, want)
	}
}

// ask is P1, P3, P6: the model's answer, or that there is no room, or it is lost.
func (w *world) ask(x Item) {
	w.t.Helper()
	slow, fast := w.d.pool.Store().Free()
	was := w.d.pool.Roots()
	a := w.d.Do(x)
	switch {
	case same(a, code(api.ErrFull)):
		w.full++
		metas, datas := fsys.Need(x.O)
		needSlow, needFast := class.Need(w.d.policy, metas, datas)
		if slow >= needSlow && fast >= needFast {
			w.fail(x, fmt.Sprint("no room, of ", slow, fast), "room")
		}
	case w.harmed && same(a, code(api.ErrLost)):
		w.lost++
	default:
		if want := w.has.now.Do(x.O); !same(a, want) {
			w.fail(x, a, want)
		}
		return
	}
	if !slices.Equal(w.d.pool.Roots(), was) {
		w.fail(x, "another root", "the same")
	}
}

// sync does what commits, where it is not refused.
func (w *world) sync(x Item) {
	w.t.Helper()
	m, is := w.has.snaps[x.Name]
	next, want := w.has.twin(), api.OK
	switch {
	case x.Do == snap && (x.Name == "" || len(x.Name) > 30):
		want = api.ErrName
	case x.Do == snap && is:
		want = api.ErrThere
	case x.Do == snap && len(w.has.snaps) == 8:
		want = api.ErrBig
	case x.Do == snap:
		next.snaps[x.Name] = w.has.now.Copy()
	case x.Do != sync && !is:
		want = api.ErrNone
	case x.Do == rollback:
		next.now = m.Copy()
	case x.Do == destroy:
		delete(next.snaps, x.Name)
	}
	if want == api.OK && !w.mayCommit() {
		want = api.ErrGone
	}
	if a := w.d.Do(x); !same(a, code(want)) {
		w.fail(x, a, want)
	}
	if want == api.OK {
		w.has = next
		w.commit()
		w.space()
	}
}

// crash is P5: behind it all is as it was committed. With harm that is what the
// best root says that is left.
func (w *world) crash(x Item) {
	w.t.Helper()
	left := w.d.Devs.Copy()
	left.Crash(x.Keep)
	best, is := uber.Best(left)
	a := w.d.Do(x)
	if !is && w.harmed {
		if !same(a, code(api.ErrNone)) {
			w.fail(x, a, api.ErrNone)
		}
		w.d.pool = nil
		return
	}
	if best.Txg != w.txg && !w.harmed {
		w.fail(x, best.Txg, w.txg)
	}
	w.txg = best.Txg
	w.has = w.past[best.Txg].twin()
	if !w.mayCommit() {
		if !same(a, code(api.ErrGone)) || w.d.pool != nil {
			w.fail(x, a, api.ErrGone)
		}
		return
	}
	if !same(a, code(api.OK)) {
		w.fail(x, a, api.OK)
	}
	w.commit()
	w.space()
	w.alike()
}

// space is P9: what nothing needs is free behind what commits. With harm that
// hangs on what caches had of what is lost.
func (w *world) space() {
	w.t.Helper()
	if w.harmed {
		return
	}
	refs, e := w.d.pool.Refs()
	want := [2]int{}
	for side := range want {
		want[side] = max(w.d.Size(side)-api.Ring, 0)
	}
	if n := w.d.policy.Second; n >= 2 && want[1] >= n {
		want[1] -= n
	}
	at := map[api.Loc]bool{}
	for _, ref := range refs {
		for _, l := range pointer(w.t, ref).Locs {
			at[l] = true
		}
	}
	for l := range at {
		want[l.Dev]--
	}
	for side := range want {
		if w.d.Lost(side) {
			want[side] = 0
		}
	}
	if a := w.d.Do(Item{Do: free}); !same(a, named(want[0], strconv.Itoa(want[1]))) || e != api.OK {
		w.fail(Item{Do: free}, a, want)
	}
}

// alike looks at all that there is: P1, and of the snapshots P8.
func (w *world) alike() {
	w.t.Helper()
	w.do(Item{Do: paths})
	w.do(Item{Do: snaps})
	for _, p := range walk(w.has.now, "/") {
		for _, o := range []api.Op{statOp(p), listOp(p), readOp(p)} {
			w.do(do(o))
		}
	}
	for _, name := range w.names() {
		for _, p := range walk(w.has.snaps[name], "/") {
			for _, o := range []api.Op{statOp(p), listOp(p), readOp(p)} {
				w.do(Item{Do: see, Name: name, O: o})
			}
		}
	}
}

// anyPeace is what may happen, but harm.
func anyPeace(r *rand.Rand) Item {
	for {
		if x := anyItem(r); x.Do >= 0 && x.Do < kinds && x.Do != spoil && x.Do != lose {
			return x
		}
	}
}

// P1, P3, P5, P8, P9: whatever is asked, on devices of any sizes, by any policy.
func TestWhole(t *testing.T) {
	r := rand.New(rand.NewSource(1))
	full, gone := 0, 0
	for round := range 150 {
		most := []int{5, 30, 100, 512}[round%4]
		w := newWorld(t, 1+r.Intn(most), 2+r.Intn(most-1), anyPolicy(r))
		for range 150 {
			w.do(anyPeace(r))
			if w.d.pool == nil {
				gone++
				break
			}
			if r.Intn(40) == 0 {
				w.alike()
			}
		}
		full += w.full
	}
	if full < 200 || gone < 5 {
		t.Errorf("%d were full, %d gone", full, gone)
	}
}

// spoil spoils some sector: by junk, by what another sector has, or by a log that
// tells a wrong text under a ref, and has the right digests.
func (w *world) spoil(r *rand.Rand, from int) {
	d := w.d
	side := r.Intn(2)
	anyLoc := func() api.Loc {
		return api.Loc{Dev: side, At: min(d.Size(side)-1, from+r.Intn(r.Intn(d.Size(side))+1))}
	}
	x := Item{Do: spoil, Loc: anyLoc(), Data: "harm"}
	switch r.Intn(6) {
	case 0:
		x.Data = ""
	case 1:
		x.Data, _ = d.Read(anyLoc())
	case 2:
		forge(r, d)
		return
	}
	d.Do(x)
}

// forge has a log of the second cache tell wrong texts under refs of the pool.
func forge(r *rand.Rand, d *Desk) {
	n := d.policy.Second
	first := d.Size(api.Fast) - n
	refs, _ := d.pool.Refs()
	if n < 2 || first < 4 || len(refs) == 0 {
		return
	}
	log := first + r.Intn(n)/8*8
	b := clog.Block{Seq: r.Intn(1000)}
	for at := log + 1; at < min(log+8, d.Size(api.Fast)); at++ {
		text := []string{"", "x", strings.Repeat("y", 256), "L\x00"}[r.Intn(4)]
		d.Do(Item{Do: spoil, Loc: api.Loc{Dev: api.Fast, At: at}, Data: text})
		b.Entries = append(b.Entries, clog.Entry{Key: refs[r.Intn(len(refs))], Sum: sum.Of(text), Len: len(text), At: at})
	}
	text, _ := clog.Encode(b)
	d.Do(Item{Do: spoil, Loc: api.Loc{Dev: api.Fast, At: log}, Data: text})
}

// P6: whatever sectors are spoilt, and whichever device is lost, no answer is wrong.
func TestHarm(t *testing.T) {
	r := rand.New(rand.NewSource(6))
	lost, gone := 0, 0
	for round := range 150 {
		w := newWorld(t, 20+r.Intn(200), 20+r.Intn(200), anyPolicy(r))
		for n := range 120 {
			w.do(anyPeace(r))
			if n > 20 && r.Intn(4) == 0 {
				w.harmed = true
				w.spoil(r, []int{0, 4, 4}[round%3])
			}
			if n > 50 && r.Intn(150) == 0 {
				w.harmed = true
				w.d.Do(Item{Do: lose, N: r.Intn(2)})
			}
			if w.d.pool == nil {
				gone++
				break
			}
		}
		lost += w.lost
	}
	if lost < 300 || gone < 3 {
		t.Errorf("%d were lost, %d gone", lost, gone)
	}
}

// P7: with metadata mirrored, and nothing moved, the loss of the fast device is
// of no moment.
func TestMirror(t *testing.T) {
	r := rand.New(rand.NewSource(7))
	for range 60 {
		w := newWorld(t, 512, 20+r.Intn(300), api.Policy{MetaFast: true, Mirror: true, Arc: r.Intn(9), Second: r.Intn(30)})
		at := r.Intn(100)
		for n := range 120 {
			x := anyPeace(r)
			if x.Do == step {
				continue // which moves
			}
			w.do(x)
			if n == at {
				w.d.Do(Item{Do: lose, N: api.Fast})
				w.alike()
			}
		}
		w.alike()
		if w.full > 0 {
			t.Errorf("%d were full", w.full)
		}
	}
}

// P4, P23.3: caches change no answer, whatever a crash keeps, and whatever the
// second cache's region has.
func TestCaches(t *testing.T) {
	r := rand.New(rand.NewSource(4))
	had := [3]int{}
	for round := range 100 {
		slow, fast, p := 4+r.Intn(200), 4+r.Intn(200), anyPolicy(r)
		p.Arc, p.Second = 0, 0
		plain := made(t, slow, fast, p)
		var others []*Desk
		for _, c := range [][2]int{{1 + r.Intn(64), 0}, {0, 2 + r.Intn(40)}, {1, 2 + r.Intn(40)}, {1 + r.Intn(9), 2 + r.Intn(40)}, {1 + r.Intn(9), 1}} {
			q := p
			q.Arc, q.Second = c[0], c[1]
			region := c[1]
			if region < 2 {
				region = 0
			}
			others = append(others, made(t, slow, fast+region, q))
		}
		for range 120 {
			x := anyPeace(r)
			want := plain.Do(x)
			for i, d := range others {
				if x.Do == crash {
					count(d, &had)
					x.Keep = anyKeep(r, 30)
				}
				if a := d.Do(x); !same(a, want) {
					t.Fatalf("%d, %v: %s: %s, want %s", round, d.policy, brief(x), brief(a), brief(want))
				}
				if n := d.policy.Second; n > 1 && r.Intn(10) == 0 && round%2 == 0 {
					d.Do(Item{Do: spoil, Loc: api.Loc{Dev: api.Fast, At: fast + r.Intn(n)}, Data: "harm"})
				}
				if i > 0 && r.Intn(10) == 0 && round%4 == 0 {
					forge(r, d)
				}
			}
		}
	}
	if slices.Min(had[:]) < 500 {
		t.Errorf("%v", had)
	}
}

func count(d *Desk, had *[3]int) {
	a, b, c := d.pool.Store().Hits()
	had[0] += a
	had[1] += b
	had[2] += c
}

// P8: a snapshot stays as it was made, though all that it has is gone.
func TestSnapshotStays(t *testing.T) {
	r := rand.New(rand.NewSource(8))
	for range 20 {
		w := newWorld(t, 200, 60, anyPolicy(r))
		for range 100 {
			w.do(Item{O: anyOp(r), Now: 1})
		}
		w.do(Item{Do: snap, Name: "stays"})
		w.empty()
		w.do(Item{Do: sync})
		for range 100 {
			w.do(anyPeace(r)) // which destroys no snapshot of that name
		}
		if w.has.snaps["stays"] == nil {
			t.Fatal("it is gone")
		}
		w.alike()
	}
}

// empty has all files and directories be gone.
func (w *world) empty() {
	w.t.Helper()
	l := walk(w.has.now, "/")
	for _, p := range slices.Backward(l) {
		w.do(unlink(p))
		w.do(do(api.Op{Do: api.Rmdir, Path: p}))
	}
	if l := walk(w.has.now, "/"); len(l) > 1 {
		w.t.Fatalf("%v is there still", l)
	}
}

// P9: where all is gone, all is free.
func TestAllIsFree(t *testing.T) {
	r := rand.New(rand.NewSource(9))
	for range 40 {
		w := newWorld(t, 100+r.Intn(200), 60+r.Intn(200), anyPolicy(r))
		was := w.d.Do(Item{Do: free})
		for range 100 {
			w.do(anyPeace(r))
		}
		for _, name := range w.names() {
			w.do(Item{Do: destroy, Name: name})
		}
		w.empty()
		w.do(Item{Do: sync})
		wants(t, w.d, Item{Do: free}, was)
		if a := w.d.Do(Item{Do: crash}); a.Code != api.OK {
			t.Error(a)
		}
		wants(t, w.d, Item{Do: free}, was)
	}
}
