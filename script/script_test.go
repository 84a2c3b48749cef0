package script

import (
	"fmt"
	"math"
	"math/rand"
	"slices"
	"strconv"
	"strings"
	"testing"

	"permafrost/api"
	"permafrost/census"
	"permafrost/dev"
	"permafrost/pool"
	"permafrost/tier"
)

func do(o api.Op) Item { return Item{O: o} }

func create(p string) Item { return do(api.Op{Do: api.Create, Path: p}) }

func unlink(p string) Item { return do(api.Op{Do: api.Unlink, Path: p}) }

func write(p string, off int, data string) Item {
	return do(api.Op{Do: api.Write, Path: p, Off: off, Data: data})
}

func readOp(p string) api.Op { return api.Op{Do: api.Read, Path: p, Len: math.MaxInt} }

func statOp(p string) api.Op { return api.Op{Do: api.Stat, Path: p} }

func listOp(p string) api.Op { return api.Op{Do: api.List, Path: p} }

// named is an answer of OK, a number, and names.
func named(n int, names ...string) api.Answer { return api.Answer{N: n, Names: names} }

// brief is what stands in a message, however long it is.
func brief(x any) string { return fmt.Sprintf("%.200s", fmt.Sprint(x)) }

func code(e api.Errno) api.Answer { return api.Answer{Code: e} }

// same tells whether two answers are, a list that is nil being like an empty one.
func same(a api.Answer, b api.Answer) bool {
	return a.Code == b.Code && a.N == b.N && a.Data == b.Data && slices.Equal(a.Names, b.Names)
}

func made(t *testing.T, slow int, fast int, p api.Policy) *Desk {
	t.Helper()
	d, e := New(slow, fast, p)
	if d == nil || e != api.OK {
		t.Fatalf("New: %d", e)
	}
	return d
}

// wants does one thing, and looks at its answer.
func wants(t *testing.T, d *Desk, x Item, want api.Answer) {
	t.Helper()
	if a := d.Do(x); !same(a, want) {
		t.Errorf("%s: %s, want %s", brief(x), brief(a), brief(want))
	}
}

// goes does what has to be OK.
func goes(t *testing.T, d *Desk, l ...Item) {
	t.Helper()
	for _, x := range l {
		if a := d.Do(x); a.Code != api.OK {
			t.Fatalf("%s: %s", brief(x), brief(a))
		}
	}
}

func TestExample(t *testing.T) { // P23.2
	l, e := Run(50, 50, api.Policy{}, []Item{create("/a"), {Do: sync}, {Do: crash}, {Do: paths}})
	if e != api.OK || len(l) != 4 || !same(l[3], named(0, "/", "/a")) {
		t.Errorf("%v, %d", l, e)
	}
	// And the document's tenth example of the whole.
	l, e = Run(50, 50, api.Policy{}, []Item{create("/a"), {Do: sync}, create("/b"), {Do: crash}, {Do: paths}})
	if e != api.OK || len(l) != 5 || !same(l[4], named(0, "/", "/a")) {
		t.Errorf("%v, %d", l, e)
	}
}

func TestNew(t *testing.T) { // P23.1
	for _, c := range []struct {
		slow, fast int
		p          api.Policy
		want       api.Errno
	}{
		{0, 50, api.Policy{}, api.ErrArg}, {50, 0, api.Policy{}, api.ErrArg}, {-1, 50, api.Policy{}, api.ErrArg}, {513, 50, api.Policy{}, api.ErrArg}, {50, 513, api.Policy{}, api.ErrArg}, {50, math.MinInt, api.Policy{}, api.ErrArg}, {math.MaxInt, 50, api.Policy{}, api.ErrArg},
		{50, 50, api.Policy{Small: 257}, api.ErrArg}, {50, 50, api.Policy{Arc: 65}, api.ErrArg}, {50, 50, api.Policy{Second: 509}, api.ErrArg}, {50, 50, api.Policy{Small: -1}, api.ErrArg}, {50, 50, api.Policy{Arc: -1}, api.ErrArg}, {50, 50, api.Policy{Second: -1}, api.ErrArg},
		{1, 1, api.Policy{Arc: 65}, api.ErrArg}, {1, 1, api.Policy{}, api.ErrGone}, // the first root's sector is 1
	} {
		if d, e := New(c.slow, c.fast, c.p); d != nil || e != c.want {
			t.Errorf("%d, %d, %v: %d, want %d", c.slow, c.fast, c.p, e, c.want)
		}
		if l, e := Run(c.slow, c.fast, c.p, []Item{{Do: snaps}, create("/a")}); len(l) > 0 || e != c.want {
			t.Errorf("%d, %d, %v: %v, %d, want %d", c.slow, c.fast, c.p, l, e, c.want)
		}
	}
	for _, n := range [][2]int{{512, 512}, {1, 2}, {2, 1}} {
		d := made(t, n[0], n[1], api.Policy{Small: 256, Arc: 64, Second: 508})
		if d.Size(api.Slow) != n[0] || d.Size(api.Fast) != n[1] {
			t.Errorf("%d, %d", d.Size(api.Slow), d.Size(api.Fast))
		}
		wants(t, d, Item{Do: paths}, named(0, "/"))
		wants(t, d, Item{Do: snaps}, named(0))
		if d.pool.Txg() != 1 || len(d.Waits()) > 0 {
			t.Errorf("%d, %v", d.pool.Txg(), d.Waits())
		}
	}
}

func TestRun(t *testing.T) { // P23.2
	for _, l := range [][]Item{nil, {}} {
		if answers, e := Run(9, 9, api.Policy{}, l); len(answers) > 0 || e != api.OK {
			t.Errorf("%v, %d", answers, e)
		}
	}
	r := rand.New(rand.NewSource(23))
	for range 20 {
		slow, fast, p := 4+r.Intn(60), 4+r.Intn(60), anyPolicy(r)
		var l []Item
		for range 60 {
			l = append(l, anyItem(r))
		}
		was := fmt.Sprint(l)
		d := made(t, slow, fast, p)
		for range 2 { // R6
			answers, e := Run(slow, fast, p, l)
			if e != api.OK || len(answers) != len(l) || fmt.Sprint(l) != was {
				t.Fatalf("%d answers, %d", len(answers), e)
			}
			for i, a := range answers {
				if i == 0 {
					d = made(t, slow, fast, p)
				}
				if want := d.Do(l[i]); !same(a, want) {
					t.Fatalf("%s: %s, want %s", brief(l[i]), brief(a), brief(want))
				}
			}
		}
	}
}

// P23.2: of no desk, and of one that New did not make.
func TestNothing(t *testing.T) {
	none := map[int]api.Answer{ // as of a pool that is nil
		step: named(0, "0"), free: named(0, "0"), snaps: {},
	}
	for n := -2; n < kinds+2; n++ {
		want, is := none[n]
		if !is {
			want = code(api.ErrArg)
		}
		for _, x := range []Item{{Do: n}, {Do: n, O: statOp("/"), Name: "s", N: 1, Now: -1, Data: "x", Keep: []bool{true}}} {
			wants(t, nil, x, code(api.ErrArg))
			wants(t, &Desk{}, x, want)
		}
	}
	for _, n := range []int{math.MinInt, math.MaxInt} {
		wants(t, made(t, 9, 9, api.Policy{}), Item{Do: n}, code(api.ErrArg))
	}
}

// P23.2: each item by its number.
func TestEachItem(t *testing.T) {
	d := made(t, 60, 30, api.Policy{MetaFast: true, Mirror: true, Arc: 4, Second: 10})
	wants(t, d, Item{Do: 11}, named(56, "16"))
	wants(t, d, create("/a"), named(0))
	wants(t, d, create("/a"), code(api.ErrThere))
	wants(t, d, write("/a", 0, strings.Repeat("x", 600)), named(600))
	wants(t, d, Item{O: readOp("/a"), Now: 5}, api.Answer{N: 600, Data: strings.Repeat("x", 600)})
	wants(t, d, Item{Do: 1}, named(0))
	wants(t, d, Item{Do: 11}, named(52, "15"))
	wants(t, d, Item{Do: 7, Now: 5, N: 1}, named(3, "0"))
	wants(t, d, Item{Do: 7, Now: 5, N: 1}, named(0, "0"))
	wants(t, d, Item{Do: 7, Now: 5, N: 0}, named(0, "3"))
	wants(t, d, Item{Do: 2, Name: "s"}, named(0))
	wants(t, d, Item{Do: 2, Name: "s"}, code(api.ErrThere))
	wants(t, d, Item{Do: 2}, code(api.ErrName))
	wants(t, d, unlink("/a"), named(0))
	wants(t, d, Item{Do: 13}, named(0, "/"))
	wants(t, d, Item{Do: 5, Name: "s", O: statOp("/a")}, api.Answer{N: 600, Data: "file", Names: []string{"1"}})
	wants(t, d, Item{Do: 5, Name: "s", O: api.Op{Do: api.Unlink, Path: "/a"}}, code(api.ErrArg))
	wants(t, d, Item{Do: 5, Name: "x", O: statOp("/a")}, code(api.ErrNone))
	wants(t, d, Item{Do: 12}, named(0, "s"))
	wants(t, d, Item{Do: 3, Name: "x"}, code(api.ErrNone))
	wants(t, d, Item{Do: 3, Name: "s"}, named(0))
	wants(t, d, Item{Do: 13}, named(0, "/", "/a"))
	wants(t, d, Item{Do: 4, Name: "x"}, code(api.ErrNone))
	wants(t, d, Item{Do: 4, Name: "s"}, named(0))
	wants(t, d, Item{Do: 12}, named(0))
	wants(t, d, Item{Do: 8}, named(0, "0"))
	root := d.pool.Roots()[0]
	wants(t, d, Item{Do: 9, Loc: pointer(t, root).Locs[0], Data: "harm"}, named(0))
	wants(t, d, Item{Do: 8}, named(1, "0"))
	wants(t, d, Item{Do: 9, Loc: api.Loc{Dev: 1, At: 30}}, code(api.ErrArg))
	wants(t, d, Item{Do: 9, Loc: api.Loc{Dev: 2}}, code(api.ErrArg))
	wants(t, d, Item{Do: 9, Data: strings.Repeat("x", 1025)}, code(api.ErrArg))
	wants(t, d, Item{Do: 10, N: 2}, code(api.ErrArg))
	wants(t, d, Item{Do: 10, N: -1}, code(api.ErrArg))
	wants(t, d, Item{Do: 10, N: 1}, named(0))
	wants(t, d, Item{Do: 9, Loc: api.Loc{Dev: 1}}, code(api.ErrGone))
	wants(t, d, Item{Do: 13}, named(0, "/", "/a"))
	if _, fast := d.pool.Store().Free(); fast != 0 {
		t.Error(fast)
	}
}

// P23.2: a crash mounts by the same policy, with a new tier; where nothing can be
// mounted there is neither pool nor tier, and the devices may be mounted again.
func TestCrash(t *testing.T) {
	d := made(t, 60, 60, api.Policy{Small: 3, Arc: 4, Second: 10})
	goes(t, d, create("/a"), write("/a", 0, "data"), Item{Do: sync}, Item{O: readOp("/a"), Now: 1}, create("/b"))
	keep := []bool{true, true}
	was := d.pool
	goes(t, d, Item{Do: crash, Keep: keep})
	if d.pool == was || d.pool == nil || !slices.Equal(keep, []bool{true, true}) {
		t.Error("the same pool")
	}
	wants(t, d, Item{Do: paths}, named(0, "/", "/a"))
	wants(t, d, Item{Do: step, Now: 1, N: 9}, named(0, "0")) // no heat
	goes(t, d, write("/a", 256, "xyz"))
	if l, e := d.tier.Where("/a"); e != api.OK || !slices.Equal(l, []int{0, 1}) { // Small is 3 still
		t.Errorf("%v, %d", l, e)
	}
	wants(t, d, Item{Do: free}, named(53, "45"))
	goes(t, d, Item{Do: sync})
	back := d.Devs.Copy()
	goes(t, d, Item{Do: lose, N: 0}, Item{Do: lose, N: 1})
	for range 2 {
		wants(t, d, Item{Do: crash}, code(api.ErrNone))
		wants(t, d, create("/b"), code(api.ErrArg))
		wants(t, d, Item{Do: free}, named(0, "0"))
	}
	d.Devs = back
	wants(t, d, create("/b"), code(api.ErrArg))
	goes(t, d, Item{Do: crash})
	wants(t, d, Item{Do: paths}, named(0, "/", "/a"))
}

// P23.2: what a crash keeps is what Keep says, by the places of what waits.
func TestKeep(t *testing.T) {
	for n := range 8 {
		keep := []bool{n&1 > 0, n&2 > 0, n&4 > 0}
		d := made(t, 60, 60, api.Policy{MetaFast: true, Mirror: true})
		goes(t, d, create("/a"), Item{Do: snap, Name: "s"}, create("/b"), Item{Do: snap, Name: "t"}, create("/c"), Item{Do: sync})
		var at []api.Loc // the first copies of three blocks
		for _, root := range d.pool.Roots() {
			at = append(at, pointer(t, root).Locs[0])
			goes(t, d, Item{Do: spoil, Loc: at[len(at)-1], Data: "harm"})
		}
		wants(t, d, Item{Do: scrub}, named(3, "0"))
		waits := d.Waits() // nothing is flushed
		if len(waits) != 3 {
			t.Fatal(waits)
		}
		goes(t, d, Item{Do: crash, Keep: keep})
		for i, l := range waits {
			if s, _ := d.Read(l); !slices.Contains(at, l) || (s != "harm") != keep[i] {
				t.Errorf("%v: %v has %.9q", keep, l, s)
			}
		}
		wants(t, d, Item{Do: paths}, named(0, "/", "/a", "/b", "/c"))
	}
}

// R5: what is answered is new memory.
func TestAnswersAreNew(t *testing.T) {
	d := made(t, 60, 60, api.Policy{Arc: 3})
	goes(t, d, create("/a"), Item{Do: snap, Name: "s"}, Item{Do: snap, Name: "t"})
	for _, x := range []Item{{Do: paths}, {Do: snaps}, {Do: free}, {Do: scrub}, {Do: step}, do(listOp("/")), do(statOp("/a")), {Do: see, Name: "s", O: listOp("/")}} {
		was := fmt.Sprint(d.Do(x))
		a := d.Do(x)
		clear(a.Names)
		_ = append(a.Names, "harm")
		if now := fmt.Sprint(d.Do(x)); now != was {
			t.Errorf("%v: %s, was %s", x, now, was)
		}
	}
}

// plain does by the layers below, one call each, what the words say.
type plain struct {
	d *dev.Devs
	p api.Policy
	x *pool.Pool
	t *tier.Tier
}

func newPlain(slow int, fast int, p api.Policy) *plain {
	m := &plain{d: dev.New(slow, fast), p: p}
	m.x, _ = pool.Create(m.d, p)
	m.t = tier.New(m.x)
	return m
}

func (m *plain) do(x Item) api.Answer {
	switch x.Do {
	case 0:
		return m.t.Do(x.O, x.Now)
	case 1:
		return code(m.x.Sync())
	case 2:
		return code(m.x.Snap(x.Name))
	case 3:
		return code(m.x.Rollback(x.Name))
	case 4:
		return code(m.x.Destroy(x.Name))
	case 5:
		return m.x.See(x.Name, x.O)
	case 6:
		m.d.Crash(x.Keep)
		var e api.Errno
		m.x, e = pool.Mount(m.d, m.p)
		m.t = tier.New(m.x)
		return code(e)
	case 7:
		up, down := m.t.Step(x.Now, x.N)
		return named(up, strconv.Itoa(down))
	case 8:
		_, n, lost, e := census.Scrub(m.x)
		if e != api.OK {
			return code(e)
		}
		return named(n, strconv.Itoa(lost))
	case 9:
		return code(m.d.Spoil(x.Loc, x.Data))
	case 10:
		return code(m.d.Lose(x.N))
	case 11:
		slow, fast := m.x.Store().Free()
		return named(slow, strconv.Itoa(fast))
	case 12:
		return named(0, m.x.Snaps()...)
	case 13:
		l, e := census.Paths(m.x)
		return api.Answer{Code: e, Names: l}
	}
	return code(api.ErrArg)
}

// all is all that devices have, and what waits.
func all(d *dev.Devs) string {
	s := fmt.Sprint(d.Waits())
	for side := range 2 {
		for at := range d.Size(side) {
			text, e := d.Read(api.Loc{Dev: side, At: at})
			s += fmt.Sprintf(" %q %d", text, e)
		}
	}
	return s
}

// P23.2: whatever happens, the desk answers as the layers below it do, and the
// devices have the same.
func TestAgainstTheLayers(t *testing.T) {
	r := rand.New(rand.NewSource(232))
	count := map[int]int{}
	for round := range 100 {
		slow, fast, p := 4+r.Intn(60), 4+r.Intn(60), anyPolicy(r)
		d, m := made(t, slow, fast, p), newPlain(slow, fast, p)
		for range 80 {
			x := anyItem(r)
			if x.Do == lose && r.Intn(4) > 0 {
				continue
			}
			a := d.Do(x)
			if want := m.do(x); !same(a, want) {
				t.Fatalf("%d: %s: %s, want %s", round, brief(x), brief(a), brief(want))
			}
			if a.Code == api.OK {
				count[x.Do]++
			}
		}
		if all(d.Devs) != all(m.d) {
			t.Fatalf("%d: other sectors", round)
		}
	}
	for n := range kinds {
		if count[n] < 15 {
			t.Errorf("%d was OK only %d times", n, count[n])
		}
	}
}
