package pool

import (
	"fmt"
	"math"
	"math/rand"
	"slices"
	"strings"
	"testing"

	"permafrost/api"
	"permafrost/dev"
	"permafrost/fixed"
	"permafrost/fsys"
	"permafrost/model"
	"permafrost/ptr"
	"permafrost/store"
	"permafrost/uber"
)

func create(p string) api.Op { return api.Op{Do: api.Create, Path: p} }

func unlink(p string) api.Op { return api.Op{Do: api.Unlink, Path: p} }

func write(p string, off int, data string) api.Op {
	return api.Op{Do: api.Write, Path: p, Off: off, Data: data}
}

func read(p string) api.Op { return api.Op{Do: api.Read, Path: p, Len: math.MaxInt} }

func stat(p string) api.Op { return api.Op{Do: api.Stat, Path: p} }

func list(p string) api.Op { return api.Op{Do: api.List, Path: p} }

func slow(at int) api.Loc { return api.Loc{Dev: api.Slow, At: at} }

func fast(at int) api.Loc { return api.Loc{Dev: api.Fast, At: at} }

// mirrored is a policy that uses all that there is.
func mirrored() api.Policy {
	return api.Policy{MetaFast: true, Mirror: true, Small: 50, Arc: 6, Second: 16}
}

// same tells whether two answers are, a list that is nil being like an empty one.
func same(a api.Answer, b api.Answer) bool {
	return a.Code == b.Code && a.N == b.N && a.Data == b.Data && slices.Equal(a.Names, b.Names)
}

func made(t *testing.T, d *dev.Devs, p api.Policy) *Pool {
	t.Helper()
	x, e := Create(d, p)
	if x == nil || e != api.OK {
		t.Fatalf("Create: %d", e)
	}
	return x
}

func mount(t *testing.T, d *dev.Devs, p api.Policy) *Pool {
	t.Helper()
	x, e := Mount(d, p)
	if x == nil || e != api.OK {
		t.Fatalf("Mount: %d", e)
	}
	return x
}

// do does what has to be OK.
func do(t *testing.T, x *Pool, ops ...api.Op) {
	t.Helper()
	for _, o := range ops {
		if a := x.Do(o); a.Code != api.OK {
			t.Fatalf("%.80v: %v", o, a)
		}
	}
}

func ok(t *testing.T, e api.Errno) {
	t.Helper()
	if e != api.OK {
		t.Fatalf("error %d", e)
	}
}

func free(t *testing.T, x *Pool, onSlow int, onFast int) {
	t.Helper()
	if a, b := x.Store().Free(); a != onSlow || b != onFast {
		t.Errorf("Free: %d, %d, want %d, %d", a, b, onSlow, onFast)
	}
}

// names is a list of the pool's top, as one text.
func names(x *Pool) string { return strings.Join(x.Do(list("/")).Names, " ") }

// loadOf is the load that a pool's root sector has to have, by the document's words.
func loadOf(x *Pool) string {
	l := x.Roots()
	s := fixed.Text(l[0], 1) + fixed.Put(len(l)-1, 1)
	for i, name := range x.Snaps() {
		s += fixed.Text(name, 1) + fixed.Text(l[i+1], 1)
	}
	return s
}

// committed looks for what a pool has on the devices, by that number, flushed.
func committed(t *testing.T, x *Pool, txg int) {
	t.Helper()
	d := x.Store().Devs().Copy()
	if l := d.Waits(); len(l) > 0 {
		t.Errorf("%v wait", l)
	}
	want := uber.Uber{Txg: txg, Load: loadOf(x)}
	if u, is := uber.Best(d); !is || u != want || x.Txg() != txg {
		t.Errorf("%d, %q of number %d, want %q, %d", x.Txg(), u.Load, u.Txg, want.Load, txg)
	}
	text, _ := uber.Encode(want)
	for side := range 2 {
		l := api.Loc{Dev: side, At: txg % 4}
		if s, e := d.Read(l); e == api.OK && s != text {
			t.Errorf("%v has another root", l)
		}
	}
}

func TestExample(t *testing.T) { // P20.6
	d := dev.New(20, 20)
	x := made(t, d, api.Policy{})
	do(t, x, create("/a"))
	d.Crash(nil)
	x = mount(t, d, api.Policy{})
	if s := names(x); s != "" {
		t.Errorf("%q", s)
	}
	do(t, x, create("/a"))
	ok(t, x.Sync())
	d.Crash(nil)
	if s := names(mount(t, d, api.Policy{})); s != "a" {
		t.Errorf("%q", s)
	}
}

func TestCreate(t *testing.T) { // P20.1
	d := dev.New(20, 30)
	d.Write(slow(9), "waits")
	x := made(t, d, mirrored())
	committed(t, x, 1)
	free(t, x, 16, 10)
	if l := x.Roots(); !slices.Equal(l, []string{""}) || len(x.Snaps()) > 0 || x.Store().Devs() != d {
		t.Errorf("%q, %q", l, x.Snaps())
	}
	if l, e := x.Refs(); len(l) > 0 || e != api.OK {
		t.Errorf("%q, %d", l, e)
	}
	if s, _ := d.Read(slow(9)); s != "waits" {
		t.Errorf("%q", s)
	}
	if s, _ := d.Read(slow(1)); s == "" {
		t.Error("no root")
	}
	do(t, x, list("/"), stat("/"))
	d.Crash(nil)
	committed(t, mount(t, d, mirrored()), 2)
}

func TestCreateRefuses(t *testing.T) { // P20.1
	lost := func(sides ...int) *dev.Devs {
		d := dev.New(9, 9)
		for _, side := range sides {
			d.Lose(side)
		}
		return d
	}
	for i, c := range []struct {
		d *dev.Devs
		p api.Policy
		e api.Errno
	}{
		{nil, api.Policy{}, api.ErrArg}, {nil, api.Policy{Arc: -1}, api.ErrArg},
		{dev.New(9, 9), api.Policy{Small: 257}, api.ErrArg}, {dev.New(9, 9), api.Policy{Arc: 65}, api.ErrArg}, {dev.New(9, 9), api.Policy{Second: 509}, api.ErrArg},
		{lost(0, 1), api.Policy{Small: -1}, api.ErrArg},
		{lost(0, 1), api.Policy{}, api.ErrGone}, {lost(0), api.Policy{}, api.OK}, {lost(1), api.Policy{}, api.OK},
		{dev.New(1, 1), api.Policy{}, api.ErrGone}, {dev.New(2, 1), api.Policy{}, api.OK}, {dev.New(1, 2), api.Policy{}, api.OK},
		{&dev.Devs{}, api.Policy{}, api.ErrGone},
	} {
		was := fmt.Sprint(c.d)
		x, e := Create(c.d, c.p)
		if (x != nil) != (c.e == api.OK) || e != c.e {
			t.Errorf("%d: %v, %d", i, x, e)
		}
		if c.e == api.OK {
			committed(t, x, 1)
		} else if fmt.Sprint(c.d) != was {
			t.Errorf("%d: something was written", i)
		}
	}
}

// P20.1: what is committed is the new pool, and not an older one.
func TestCreateAnew(t *testing.T) {
	for syncs := range 9 {
		d := dev.New(30, 30)
		x := made(t, d, mirrored())
		do(t, x, create("/a"), write("/a", 0, "old"))
		ok(t, x.Snap("old"))
		for range syncs {
			ok(t, x.Sync())
		}
		x.Begin()
		x = made(t, d, mirrored())
		committed(t, x, 1)
		free(t, x, 26, 10)
		d.Crash([]bool{true, true, true})
		x = mount(t, d, mirrored())
		committed(t, x, 2)
		if names(x) != "" || len(x.Snaps()) > 0 {
			t.Errorf("behind %d: %q, %q", syncs, names(x), x.Snaps())
		}
		do(t, x, create("/b"), write("/b", 0, "new"))
		if s := x.Do(read("/b")).Data; s != "new" {
			t.Errorf("%q", s)
		}
	}
}

// loads are some that Mount takes, and some that it does not.
func loads(t *testing.T) (good []string, bad []string) {
	t.Helper()
	ref, e := ptr.Encode(api.Ptr{Locs: []api.Loc{slow(5)}, Sum: strings.Repeat("s", 32)})
	ok(t, e)
	root := fixed.Text(ref, 1)
	long := strings.Repeat("n", 30)
	eight := ""
	for i := range 8 {
		eight += "\x01" + fmt.Sprint(i) + root
	}
	good = []string{"\x00\x00", root + "\x00", "\x00\x01\x01a\x00", root + "\x01\x1e" + long + root, "\x00\x02\x01\x00\x00\x01\xff\x00", root + "\x02\x01a" + root + "\x02aa\x00", root + "\x08" + eight}
	bad = []string{
		"", "\x00", "\x00\x00\x00", "junk", "\x00\x01", "\x00\x01\x01", "\x00\x01\x01a", "\x00\x01\x01a\x00x", "\x00\x02\x01a\x00", root, root[:20],
		"\x00\x01\x00\x00", "\x00\x01\x1f" + long + "n\x00", // names
		"\x00\x02\x01a\x00\x01a\x00", "\x00\x02\x01b\x00\x01a\x00", "\x00\x02\x02aa\x00\x01a\x00", // do not rise
		"\x00\x09" + eight + "\x019\x00",
		"\x01x\x00", "\x00\x01\x01a\x01x", fixed.Text(ref+"x", 1) + "\x00", fixed.Text(ref[1:], 1) + "\x00", "\x00\x01\x01a" + fixed.Text(ref[1:], 1), // no refs
	}
	return good, bad
}

func TestMountRefuses(t *testing.T) { // P20.1
	good, bad := loads(t)
	for i, load := range append(good, bad...) {
		d := dev.New(9, 9)
		uber.Write(d, uber.Uber{Txg: 6, Load: load})
		was := fmt.Sprint(d)
		x, e := Mount(d, api.Policy{})
		if i < len(good) {
			if x == nil || e != api.OK || loadOf(x) != load {
				t.Errorf("%q: %v, %d", load, x, e)
			}
			committed(t, x, 7)
			continue
		}
		if x != nil || e != api.ErrForm || fmt.Sprint(d) != was {
			t.Errorf("%q: %v, %d", load, x, e)
		}
	}
	none, three := dev.New(9, 9), dev.New(3, 3)
	x := made(t, three, api.Policy{})
	ok(t, x.Sync())
	lost := dev.New(9, 9)
	made(t, lost, api.Policy{})
	lost.Lose(0)
	lost.Lose(1)
	last := dev.New(9, 9)
	uber.Write(last, uber.Uber{Txg: 1 << 40, Load: "\x00\x00"})
	for i, c := range []struct {
		d *dev.Devs
		p api.Policy
		e api.Errno
	}{
		{nil, api.Policy{}, api.ErrArg}, {none, api.Policy{Arc: 65}, api.ErrArg}, {lost, api.Policy{Small: -1}, api.ErrArg}, {nil, api.Policy{Second: -1}, api.ErrArg},
		{none, api.Policy{}, api.ErrNone}, {lost, api.Policy{}, api.ErrNone}, {&dev.Devs{}, api.Policy{}, api.ErrNone},
		{three, api.Policy{}, api.ErrGone}, // there is no sector 3
		{last, api.Policy{}, api.ErrArg},   // nor a number that comes next
	} {
		if x, e := Mount(c.d, c.p); x != nil || e != c.e {
			t.Errorf("%d: %v, %d, want %d", i, x, e, c.e)
		}
	}
}

// P20.1: no number is any block's Birth twice, with a crash between.
func TestBirths(t *testing.T) {
	d := dev.New(60, 60)
	x := made(t, d, api.Policy{})
	for want := 2; want < 20; want += 2 {
		do(t, x, create(fmt.Sprint("/", want)), write(fmt.Sprint("/", want), 0, "data"))
		born := 0
		refs, e := x.Refs()
		ok(t, e)
		for _, ref := range refs {
			p, _ := ptr.Decode(ref)
			born = max(born, p.Birth)
		}
		if p, _ := ptr.Decode(x.Roots()[0]); born != want || p.Birth != want || x.Txg() != want-1 {
			t.Errorf("born in %d, %d, want %d", born, p.Birth, want)
		}
		d.Crash([]bool{true, true, true})
		x = mount(t, d, api.Policy{})
		if x.Txg() != want {
			t.Errorf("%d, want %d", x.Txg(), want)
		}
		if names(x) != "" {
			t.Errorf("%q", names(x))
		}
		ok(t, x.Sync())
	}
}

// P20.2: what fsys tells of the root becomes the pool's, and is not committed.
func TestDo(t *testing.T) {
	d := dev.New(60, 60)
	x := made(t, d, api.Policy{Small: 9})
	m := model.New()
	for _, o := range []api.Op{create("/a"), create("/a"), write("/a", 300, "data"), read("/a"), {Do: api.Mkdir, Path: "/d"}, {Do: api.Rename, Path: "/a", To: "/d/b"}, list("/d"), unlink("/a"), {Do: 99}, {Do: api.Link, Path: "/d/b", To: "/c"}, stat("/c")} {
		was := x.Roots()[0]
		next, _ := fsys.Do(mustOpen(t, d.Copy(), x), was, o)
		if a := x.Do(o); !same(a, m.Do(o)) {
			t.Errorf("%v: %v", o, a)
		}
		if now := x.Roots()[0]; now != next {
			t.Errorf("%v: the root is another one", o)
		}
	}
	was := x.Roots()[0]
	for i, c := range []struct {
		p    string
		k    int
		devs []int
		e    api.Errno
	}{{"/", 0, []int{0}, api.ErrDir}, {"/x", 0, []int{0}, api.ErrNone}, {"/c", 0, []int{0}, api.ErrNone}, {"/c", 2, []int{0}, api.ErrNone}, {"/c", 1, nil, api.ErrArg}, {"c", 0, nil, api.ErrName}} {
		if e := x.Move(c.p, c.k, c.devs); e != c.e || x.Roots()[0] != was {
			t.Errorf("%d: %d, want %d", i, e, c.e)
		}
	}
	ok(t, x.Move("/c", 1, []int{1, 0}))
	l, e := fsys.Chunks(x.Store(), x.Roots()[0], "/c")
	ok(t, e)
	if p, _ := ptr.Decode(l[1]); len(p.Locs) != 2 || p.Locs[0].Dev != 1 || p.Birth != 2 || x.Roots()[0] == was {
		t.Errorf("%v", p)
	}
	if u, _ := uber.Best(d); u.Txg != 1 || x.Txg() != 1 {
		t.Error("something was committed")
	}
}

// mustOpen is a store like the pool's, on other devices.
func mustOpen(t *testing.T, d *dev.Devs, x *Pool) *store.Store {
	t.Helper()
	var used []api.Loc
	a, b := x.Store().Free()
	for side, n := range []int{a, b} { // what was taken are the first sectors
		for at := range d.Size(side) - n {
			used = append(used, api.Loc{Dev: side, At: at})
		}
	}
	s, e := store.Open(d, api.Policy{Small: 9}, used, x.Txg()+1)
	ok(t, e)
	return s
}

// P20.3: Begin's root waits behind all else; it is not committed by that.
func TestBegin(t *testing.T) {
	for keep := range 4 {
		d := dev.New(60, 60)
		x := made(t, d, mirrored())
		do(t, x, create("/a"), write("/a", 0, "data"))
		ok(t, x.Snap("s"))
		do(t, x, create("/b"), write("/b", 0, strings.Repeat("b", 700)))
		a, b := x.Store().Free()
		ok(t, x.Begin())
		if l := d.Waits(); !slices.Equal(l, []api.Loc{slow(3), fast(3)}) || x.Txg() != 2 {
			t.Errorf("%v wait, %d", l, x.Txg())
		}
		free(t, x, a, b)
		if u, _ := uber.Best(d); u != (uber.Uber{Txg: 3, Load: loadOf(x)}) {
			t.Errorf("%v", u)
		}
		d.Crash([]bool{keep&1 != 0, keep&2 != 0})
		x = mount(t, d, mirrored())
		want, txg := "a b", 4
		if keep == 0 {
			want, txg = "a", 3
		}
		if names(x) != want || x.Txg() != txg || !slices.Equal(x.Snaps(), []string{"s"}) {
			t.Errorf("%d: %q, %d", keep, names(x), x.Txg())
		}
		if a := x.Do(read("/b")); keep != 0 && a.N != 700 {
			t.Errorf("%d: %v", keep, a)
		}
	}
}

// P20.3: what goes on behind Begin is no part of what it wrote.
func TestBehindBegin(t *testing.T) {
	d := dev.New(60, 60)
	x := made(t, d, api.Policy{})
	do(t, x, create("/a"), write("/a", 0, strings.Repeat("a", 600)))
	ok(t, x.Begin())
	do(t, x, unlink("/a"), create("/b"), write("/b", 0, strings.Repeat("b", 900)))
	twin := d.Copy()
	twin.Flush()
	other := mount(t, twin, api.Policy{})
	if a := other.Do(read("/a")); names(other) != "a" || a.Data != strings.Repeat("a", 600) {
		t.Errorf("%q, %v", names(other), a)
	}
	ok(t, x.Begin()) // by the same number
	ok(t, x.Sync())
	committed(t, x, 2)
	d.Crash(nil)
	if x = mount(t, d, api.Policy{}); names(x) != "b" {
		t.Errorf("%q", names(x))
	}
}

func TestSync(t *testing.T) { // P20.3
	d := dev.New(60, 60)
	x := made(t, d, api.Policy{MetaFast: true})
	for txg := 2; txg < 12; txg++ {
		do(t, x, create(fmt.Sprint("/", txg)), write(fmt.Sprint("/", txg), 0, strings.Repeat("x", 300)))
		if txg == 8 {
			d.Lose(api.Fast) // one device is enough, though not all can be told then
		}
		ok(t, x.Sync())
		committed(t, x, txg)
		if txg >= 8 {
			free(t, x, 0, 0)
			break
		}
		refs, e := x.Refs()
		ok(t, e)
		onFast := 0
		for _, ref := range refs {
			p, _ := ptr.Decode(ref)
			onFast += p.Locs[0].Dev
		}
		free(t, x, 56-len(refs)+onFast, 56-onFast)
	}
}

// P20.3: an error of Begin.
func TestGone(t *testing.T) {
	d := dev.New(60, 60)
	x := made(t, d, api.Policy{Arc: 20})
	for _, name := range []string{"s", "t", "u"} {
		do(t, x, create("/"+name))
		ok(t, x.Snap(name))
	}
	do(t, x, create("/v"), list("/"))
	roots := x.Roots()
	d.Lose(api.Slow)
	d.Lose(api.Fast)
	for i, do := range []func() api.Errno{
		x.Begin, x.Sync,
		func() api.Errno { return x.Snap("a") }, func() api.Errno { return x.Snap("z") },
		func() api.Errno { return x.Rollback("s") }, func() api.Errno { return x.Rollback("u") },
		func() api.Errno { return x.Destroy("s") }, func() api.Errno { return x.Destroy("u") },
	} {
		if e := do(); e != api.ErrGone {
			t.Errorf("%d: %d", i, e)
		}
		if x.Txg() != 4 || !slices.Equal(x.Roots(), roots) || !slices.Equal(x.Snaps(), []string{"s", "t", "u"}) {
			t.Errorf("%d: %d, %q, %q", i, x.Txg(), x.Roots(), x.Snaps())
		}
	}
	free(t, x, 0, 0)
	for i, e := range []api.Errno{x.Snap(""), x.Snap("s"), x.Rollback("x"), x.Destroy("x")} { // come first
		if e != []api.Errno{api.ErrName, api.ErrThere, api.ErrNone, api.ErrNone}[i] {
			t.Errorf("%d: %d", i, e)
		}
	}
}

func TestSnap(t *testing.T) { // P20.4
	d := dev.New(60, 60)
	x := made(t, d, api.Policy{})
	long := strings.Repeat("n", 30)
	for i, c := range []struct {
		name string
		e    api.Errno
	}{
		{"", api.ErrName}, {long + "n", api.ErrName}, {strings.Repeat("n", 300), api.ErrName},
		{long, api.OK}, {long, api.ErrThere}, {"/", api.OK}, {"\x00", api.OK}, {"\xff", api.OK}, {"b", api.OK}, {"a", api.OK}, {"aa", api.OK}, {"a", api.ErrThere}, {"..", api.OK},
		{"c", api.ErrBig}, {"a", api.ErrThere}, {"", api.ErrName}, {long + "n", api.ErrName},
	} {
		txg, l := x.Txg(), x.Snaps()
		do(t, x, create(fmt.Sprint("/", i)))
		if e := x.Snap(c.name); e != c.e {
			t.Errorf("%q: %d, want %d", c.name, e, c.e)
		}
		if c.e != api.OK {
			if x.Txg() != txg || !slices.Equal(x.Snaps(), l) {
				t.Errorf("%q: was committed", c.name)
			}
			continue
		}
		committed(t, x, txg+1)
		at, is := slices.BinarySearch(x.Snaps(), c.name)
		if !is || len(x.Snaps()) != len(l)+1 || x.Roots()[at+1] != x.Roots()[0] {
			t.Errorf("%q: %q", c.name, x.Snaps())
		}
	}
	if l := x.Snaps(); !slices.Equal(l, []string{"\x00", "..", "/", "a", "aa", "b", long, "\xff"}) {
		t.Errorf("%q", l)
	}
	clear(x.Snaps()) // R5
	clear(x.Roots())
	if l := mount(t, d, api.Policy{}).Snaps(); !slices.Equal(l, x.Snaps()) || len(l) != 8 {
		t.Errorf("%q", l)
	}
}

func TestRollbackAndDestroy(t *testing.T) { // P20.4, P8
	d := dev.New(60, 60)
	x := made(t, d, api.Policy{Arc: 3})
	do(t, x, create("/a"), write("/a", 0, "one"))
	ok(t, x.Snap("one"))
	do(t, x, write("/a", 0, "two"), create("/b"))
	ok(t, x.Snap("two"))
	do(t, x, unlink("/a"))
	for i, name := range []string{"", "one ", "On", "three"} {
		if x.Rollback(name) != api.ErrNone || x.Destroy(name) != api.ErrNone || x.See(name, list("/")).Code != api.ErrNone || x.See(name, api.Op{Do: 99}).Code != api.ErrNone {
			t.Errorf("%d: there is one", i)
		}
	}
	if x.Txg() != 3 || names(x) != "b" {
		t.Errorf("%d, %q", x.Txg(), names(x))
	}
	for i, c := range []struct{ name, names, text string }{{"one", "a", "one"}, {"two", "a b", "two"}, {"two", "a b", "two"}, {"one", "a", "one"}} {
		ok(t, x.Rollback(c.name))
		committed(t, x, 4+i)
		if s := x.Do(read("/a")).Data; names(x) != c.names || s != c.text {
			t.Errorf("%q, %q", names(x), s)
		}
		do(t, x, write("/a", 1, "X"))
	}
	if s := strings.Join(x.Snaps(), " "); s != "one two" {
		t.Errorf("%q", s)
	}
	ok(t, x.Destroy("one"))
	committed(t, x, 8)
	if s := x.See("two", read("/a")).Data; s != "two" || len(x.Snaps()) != 1 || x.Destroy("one") != api.ErrNone || x.Rollback("one") != api.ErrNone {
		t.Errorf("%q, %q", s, x.Snaps())
	}
	if s := x.Do(read("/a")).Data; s != "oXe" {
		t.Errorf("%q", s)
	}
	ok(t, x.Destroy("two"))
	refs, e := x.Refs()
	ok(t, e)
	free(t, x, 56-len(refs), 56) // P9
	ok(t, x.Snap("two"))         // may be made again
	if s := x.See("two", read("/a")).Data; s != "oXe" {
		t.Errorf("%q", s)
	}
}

func TestSee(t *testing.T) { // P20.4
	x := made(t, dev.New(60, 60), api.Policy{})
	do(t, x, create("/a"), write("/a", 0, "text"))
	ok(t, x.Snap("s"))
	do(t, x, unlink("/a"), create("/b"))
	roots, txg := x.Roots(), x.Txg()
	for _, c := range []struct {
		o    api.Op
		want api.Answer
	}{
		{read("/a"), api.Answer{N: 4, Data: "text"}}, {stat("/a"), api.Answer{N: 4, Data: "file", Names: []string{"1"}}}, {list("/"), api.Answer{Names: []string{"a"}}},
		{read("/b"), api.Answer{Code: api.ErrNone}}, {list("/a"), api.Answer{Code: api.ErrNotDir}}, {stat("a"), api.Answer{Code: api.ErrName}},
	} {
		if a := x.See("s", c.o); !same(a, c.want) {
			t.Errorf("%v: %v, want %v", c.o, a, c.want)
		}
	}
	for n := -2; n < 14; n++ {
		if n == api.Read || n == api.Stat || n == api.List {
			continue
		}
		for _, p := range []string{"/a", "/x", "junk"} {
			if a := x.See("s", api.Op{Do: n, Path: p, To: "/y"}); !same(a, api.Answer{Code: api.ErrArg}) {
				t.Errorf("%d: %v", n, a)
			}
		}
	}
	if !slices.Equal(roots, x.Roots()) || x.Txg() != txg {
		t.Error("something changed")
	}
}

// P20.5: each block once, of all trees that there are now.
func TestRefs(t *testing.T) {
	x := made(t, dev.New(200, 200), mirrored())
	for i := range 4 {
		do(t, x, create(fmt.Sprint("/", i)), write(fmt.Sprint("/", i), 0, strings.Repeat("x", 100*i)))
		if i < 3 {
			ok(t, x.Snap(fmt.Sprint(3-i)))
		}
	}
	var want []string
	for _, root := range x.Roots() {
		l, e := fsys.Refs(x.Store(), root)
		ok(t, e)
		for _, ref := range l {
			if !slices.Contains(want, ref) {
				want = append(want, ref)
			}
		}
	}
	slices.Sort(want)
	l, e := x.Refs()
	if e != api.OK || !slices.Equal(l, want) || len(l) < 8 {
		t.Errorf("%q, %d, want %q", l, e, want)
	}
	if r := x.Roots(); len(r) != 4 || !slices.Contains(l, r[0]) || r[1] == r[2] || r[0] == r[1] {
		t.Errorf("%q", r)
	}
	clear(l) // R5
	if l, _ := x.Refs(); !slices.Equal(l, want) {
		t.Error("Refs are the pool's own")
	}
}

// harm spoils all copies of a block.
func harm(d *dev.Devs, ref string) {
	p, _ := ptr.Decode(ref)
	for _, l := range p.Locs {
		d.Spoil(l, "harm")
	}
}

// P20.5, and which sectors are used: all, where blocks of one tree can't be told.
func TestLost(t *testing.T) {
	d := dev.New(60, 60)
	x := made(t, d, mirrored())
	do(t, x, create("/a"), write("/a", 0, "text"))
	ok(t, x.Snap("s"))
	do(t, x, unlink("/a"), create("/b"))
	ok(t, x.Sync())
	a, b := x.Store().Free()
	p := api.Policy{MetaFast: true, Mirror: true, Small: 50}
	harm(d, x.Roots()[1])
	x = mount(t, d, p) // without caches
	if l, e := x.Refs(); len(l) > 0 || e != api.ErrLost {
		t.Errorf("%q, %d", l, e)
	}
	free(t, x, 0, 0)
	if names(x) != "b" || x.See("s", list("/")).Code != api.ErrLost {
		t.Errorf("%q", names(x))
	}
	if a := x.Do(create("/c")); a.Code != api.ErrFull || names(x) != "b" {
		t.Errorf("%v", a)
	}
	ok(t, x.Sync())
	free(t, x, 0, 0)
	ok(t, x.Destroy("s"))
	if c, d := x.Store().Free(); c <= a || d <= b { // no cache, and fewer blocks
		t.Errorf("%d, %d behind %d, %d", c, d, a, b)
	}
	do(t, x, create("/c"))
	harm(d, x.Roots()[0])
	ok(t, x.Sync())
	free(t, x, 0, 0)
	if l, e := x.Refs(); len(l) > 0 || e != api.ErrLost {
		t.Errorf("%q, %d", l, e)
	}
}

// A sector that is none of the devices' is not used, and its block is lost.
func TestSmallerDevices(t *testing.T) {
	d := dev.New(40, 40)
	x := made(t, d, api.Policy{})
	do(t, x, create("/a"))
	for at := 5; at < 20; at++ {
		x.Store().PutOn("fill", []int{api.Slow})
	}
	do(t, x, write("/a", 0, "text"))
	ok(t, x.Sync())
	do(t, x, stat("/a"))
	_, e := x.Refs()
	ok(t, e)
	root, _ := ptr.Decode(x.Roots()[0])
	less := dev.New(root.Locs[0].At, 40)
	u, _ := uber.Best(d)
	ok(t, uber.Write(less, u))
	y := mount(t, less, api.Policy{})
	free(t, y, 0, 0) // the root's own node is none of the devices'
	if y.Do(list("/")).Code != api.ErrLost {
		t.Error("is told")
	}

	ok(t, x.Move("/a", 0, []int{api.Fast}))
	ok(t, x.Sync())
	x.Do(write("/a", 300, "more")) // nodes come to the first sectors
	ok(t, x.Sync())
	l, e := fsys.Chunks(x.Store(), x.Roots()[0], "/a")
	ok(t, e)
	far, _ := ptr.Decode(l[0])
	less = dev.New(40, far.Locs[0].At)
	for at := range 40 {
		s, _ := d.Read(slow(at))
		less.Write(slow(at), s)
	}
	y = mount(t, less, api.Policy{})
	refs, e := y.Refs()
	ok(t, e)
	free(t, y, 36-(len(refs)-1), max(0, far.Locs[0].At-4))
	if names(y) != "a" || y.Do(read("/a")).Code != api.ErrLost {
		t.Errorf("%q, %v", names(y), y.Do(read("/a")))
	}
}

func TestNothing(t *testing.T) { // P20.1
	for i, x := range []*Pool{nil, {}} {
		for n := -1; n < 12; n++ {
			if a := x.Do(api.Op{Do: n, Path: "/"}); !same(a, api.Answer{Code: api.ErrArg}) {
				t.Errorf("%d: %v", i, a)
			}
			if a := x.See("s", api.Op{Do: n, Path: "/"}); !same(a, api.Answer{Code: api.ErrArg}) {
				t.Errorf("%d: %v", i, a)
			}
		}
		for j, e := range []api.Errno{x.Move("/a", 0, []int{0}), x.Begin(), x.Sync(), x.Snap("s"), x.Snap(""), x.Rollback("s"), x.Destroy("s")} {
			if e != api.ErrArg {
				t.Errorf("%d, %d: %d", i, j, e)
			}
		}
		if l, e := x.Refs(); len(l) > 0 || e != api.ErrArg {
			t.Errorf("%d: %q, %d", i, l, e)
		}
		if len(x.Snaps()) > 0 || len(x.Roots()) > 0 || x.Store() != nil || x.Txg() != 0 {
			t.Errorf("%d: has something", i)
		}
	}
}

func anyPolicy(r *rand.Rand) api.Policy {
	return api.Policy{MetaFast: r.Intn(2) == 0, Mirror: r.Intn(2) == 0, Small: r.Intn(2) * r.Intn(257), Arc: r.Intn(2) * (1 + r.Intn(20)), Second: r.Intn(2) * r.Intn(30)}
}

func anyOp(r *rand.Rand) api.Op {
	numbers := []int{0, 0, 255, 256, 300, 512, 16384, -1, r.Intn(1500), r.Intn(1500)}
	anyPath := func() string {
		p := ""
		for range 1 + r.Intn(3)*r.Intn(3)/2 {
			p += "/" + string("abc"[r.Intn(3)])
		}
		return p
	}
	return api.Op{
		Do: []int{0, 0, 0, 1, 1, 2, 3, 4, 5, 6, 7, 7, 7, 8, 9, 10, 11}[r.Intn(17)], Path: anyPath(), To: anyPath(),
		Off: numbers[r.Intn(len(numbers))], Len: numbers[r.Intn(len(numbers))],
		Data: strings.Repeat(fmt.Sprint(r.Intn(100)), r.Intn(2)*r.Intn(250)),
	}
}

// plain is a pool of the model's trees.
type plain struct {
	now   *model.Tree
	snaps map[string]*model.Tree
}

func (m plain) twin() plain {
	c := plain{now: m.now.Copy(), snaps: map[string]*model.Tree{}}
	for name, x := range m.snaps {
		c.snaps[name] = x.Copy()
	}
	return c
}

// told is all that a tree answers of itself below a path.
func told(do func(api.Op) api.Answer, p string) string {
	names := do(list(p)).Names
	all := fmt.Sprintf("%q %v %v\n", p, do(stat(p)), do(read(p)))
	for _, name := range names {
		all += told(do, strings.TrimSuffix(p, "/")+"/"+name)
	}
	return all
}

func (m plain) told() string {
	all := told(m.now.Do, "/")
	for i := range 9 {
		if x := m.snaps[fmt.Sprint(i)]; x != nil {
			all += fmt.Sprint("snapshot ", i, "\n", told(x.Do, "/"))
		}
	}
	return all
}

func toldOf(x *Pool) string {
	all := told(x.Do, "/")
	for _, name := range x.Snaps() {
		all += "snapshot " + name + "\n" + told(func(o api.Op) api.Answer { return x.See(name, o) }, "/")
	}
	return all
}

// space looks for what has to be free behind a Sync: all that no tree needs.
func space(t *testing.T, x *Pool, p api.Policy) {
	t.Helper()
	d := x.Store().Devs()
	at := map[api.Loc]bool{}
	for _, root := range x.Roots() {
		l, e := fsys.Refs(x.Store(), root)
		ok(t, e)
		for _, ref := range l {
			p, _ := ptr.Decode(ref)
			for _, l := range p.Locs {
				at[l] = true
			}
		}
	}
	n := [2]int{d.Size(0) - 4, d.Size(1) - 4}
	if p.Second >= 2 && n[1] >= p.Second {
		n[1] -= p.Second
	}
	for l := range at {
		n[l.Dev]--
	}
	free(t, x, n[0], n[1])
}

// try does one thing to both, which has to end alike; whether it was a Sync.
func try(t *testing.T, r *rand.Rand, x *Pool, m *plain) bool {
	t.Helper()
	name := fmt.Sprint(r.Intn(9))
	_, is := m.snaps[name]
	want := api.OK
	var e api.Errno
	switch n := r.Intn(20); {
	case n == 0:
		if e = x.Snap(name); is {
			want = api.ErrThere
		} else if len(m.snaps) == 8 {
			want = api.ErrBig
		} else {
			m.snaps[name] = m.now.Copy()
		}
	case n == 1:
		if e = x.Rollback(name); is {
			m.now = m.snaps[name].Copy()
		} else {
			want = api.ErrNone
		}
	case n == 2:
		if e = x.Destroy(name); is {
			delete(m.snaps, name)
		} else {
			want = api.ErrNone
		}
	case n == 3:
		e = x.Sync()
	default:
		o := anyOp(r)
		if a := x.Do(o); a.Code != api.ErrFull {
			if want := m.now.Do(o); !same(a, want) {
				t.Fatalf("%.80v: %.300v, want %.300v", o, a, want)
			}
		}
		return false
	}
	if e != want {
		t.Fatalf("error %d, want %d", e, want)
	}
	return e == api.OK
}

// P20.6, P1, P4, P5, P8, P9: whatever is done, by any policy, and whatever a
// crash keeps, the pool is as it was committed, or as it would be.
func TestCrashes(t *testing.T) {
	r := rand.New(rand.NewSource(20))
	begun := 0
	for range 60 {
		p := anyPolicy(r)
		d := dev.New(60+r.Intn(200), 60+r.Intn(200))
		x, m := made(t, d, p), plain{now: model.New(), snaps: map[string]*model.Tree{}}
		may := []plain{m.twin()} // what is committed, and what was begun behind that
		for range 120 {
			txg := x.Txg()
			if try(t, r, x, &m) {
				committed(t, x, txg+1)
				space(t, x, p)
				may = []plain{m.twin()}
			}
			if r.Intn(20) == 0 {
				ok(t, x.Begin())
				may = append(may, m.twin())
			}
			if r.Intn(12) > 0 {
				continue
			}
			if now := toldOf(x); now != m.told() {
				t.Fatalf("%s\nwant\n%s", now, m.told())
			}
			keep := make([]bool, r.Intn(2)*len(d.Waits()))
			for i := range keep {
				keep[i] = r.Intn(3) > 0
			}
			txg = x.Txg()
			d.Crash(keep)
			x = mount(t, d, p)
			space(t, x, p)
			now := toldOf(x)
			i := slices.IndexFunc(may, func(m plain) bool { return m.told() == now })
			if i < 0 || x.Txg() <= txg || x.Txg() > txg+2 {
				t.Fatalf("%d behind %d: %s\nwant\n%s", x.Txg(), txg, now, may[0].told())
			}
			begun += min(i, 1)
			m = may[i].twin()
			may = []plain{m.twin()}
		}
	}
	if begun < 20 {
		t.Errorf("only %d were as was begun", begun)
	}
}

// P6: whatever sectors are spoilt, and whichever device is lost, no answer is wrong.
func TestHarm(t *testing.T) {
	r := rand.New(rand.NewSource(206))
	lost := 0
	for range 60 {
		p := anyPolicy(r)
		d := dev.New(200, 200)
		x, m := made(t, d, p), plain{now: model.New(), snaps: map[string]*model.Tree{}}
		for range 60 {
			try(t, r, x, &m)
		}
		for range 30 {
			d.Spoil(api.Loc{Dev: r.Intn(2), At: 4 + r.Intn(60)}, "harm")
		}
		if r.Intn(3) == 0 {
			d.Lose(r.Intn(2))
		}
		if r.Intn(2) == 0 {
			ok(t, x.Sync())
			x = mount(t, d, p)
		}
		for range 60 {
			o := anyOp(r)
			a := x.Do(o)
			if a.Code == api.ErrLost || a.Code == api.ErrFull {
				lost++
				continue
			}
			if want := m.now.Do(o); !same(a, want) {
				t.Fatalf("%.80v: %.300v, want %.300v", o, a, want)
			}
		}
	}
	if lost < 50 {
		t.Errorf("only %d were lost", lost)
	}
}

// P7: with metadata mirrored, and nothing moved, the fast device may be lost.
func TestFastLost(t *testing.T) {
	r := rand.New(rand.NewSource(207))
	for round := range 20 {
		p := api.Policy{MetaFast: true, Mirror: true, Arc: r.Intn(9), Second: r.Intn(30)}
		d := dev.New(400, 200)
		x, m := made(t, d, p), plain{now: model.New(), snaps: map[string]*model.Tree{}}
		for step := range 100 {
			try(t, r, x, &m)
			if step == 50 {
				d.Lose(api.Fast)
			}
			if step == 60 && round%2 == 0 {
				ok(t, x.Sync())
				d.Crash(nil)
				x = mount(t, d, p)
			}
		}
		if now := toldOf(x); now != m.told() {
			t.Fatalf("%s\nwant\n%s", now, m.told())
		}
	}
}
