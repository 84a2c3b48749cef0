package dev

import (
	"fmt"
	"math"
	"math/rand"
	"slices"
	"strings"
	"testing"

	"permafrost/api"
)

func slow(at int) api.Loc { return api.Loc{Dev: api.Slow, At: at} }

func fast(at int) api.Loc { return api.Loc{Dev: api.Fast, At: at} }

// nowhere has places that devices of four sectors and two do not have.
var nowhere = []api.Loc{
	slow(4), slow(-1), slow(512), slow(math.MaxInt), slow(math.MinInt),
	fast(2), fast(3), fast(-1), fast(math.MaxInt), fast(math.MinInt),
	{Dev: 2}, {Dev: -1}, {Dev: math.MaxInt}, {Dev: math.MinInt}, {Dev: 2, At: 9},
}

func wantRead(t *testing.T, d *Devs, l api.Loc, want string) {
	t.Helper()
	if s, e := d.Read(l); s != want || e != api.OK {
		t.Errorf("%v: %q, %d, not %q", l, s, e, want)
	}
}

func wantWaits(t *testing.T, d *Devs, want ...api.Loc) {
	t.Helper()
	if l := d.Waits(); !slices.Equal(l, want) {
		t.Errorf("what waits: %v, not %v", l, want)
	}
}

func mustWrite(t *testing.T, d *Devs, l api.Loc, s string) {
	t.Helper()
	if e := d.Write(l, s); e != api.OK {
		t.Fatalf("write to %v: %d", l, e)
	}
}

func TestNew(t *testing.T) { // P3.1
	for _, c := range [][2]int{{1, 1}, {512, 512}, {1, 512}, {512, 1}, {4, 2}} {
		d := New(c[0], c[1])
		if d == nil {
			t.Fatalf("%v: none", c)
		}
		for dev, n := range c {
			if d.Size(dev) != n || d.Lost(dev) {
				t.Errorf("%v: device %d: %d, lost %v", c, dev, d.Size(dev), d.Lost(dev))
			}
			for at := range n {
				wantRead(t, d, api.Loc{Dev: dev, At: at}, "")
			}
		}
		for _, dev := range []int{-1, 2, 3, math.MinInt, math.MaxInt} {
			if d.Size(dev) != 0 {
				t.Errorf("%v: device %d: %d", c, dev, d.Size(dev))
			}
		}
		wantWaits(t, d)
	}
}

func TestNewWrong(t *testing.T) { // P3.1
	for _, n := range []int{0, -1, 513, math.MinInt, math.MaxInt} {
		if New(n, 1) != nil || New(1, n) != nil || New(n, n) != nil {
			t.Errorf("%d", n)
		}
	}
}

func TestNil(t *testing.T) { // P3.1
	var d *Devs
	if d.Size(0) != 0 || d.Size(1) != 0 || d.Size(7) != 0 {
		t.Error("sizes")
	}
	if s, e := d.Read(slow(0)); s != "" || e != api.ErrArg {
		t.Errorf("read: %q, %d", s, e)
	}
	for i, e := range []api.Errno{d.Write(slow(0), "a"), d.Flush(), d.Crash(nil), d.Crash([]bool{true}), d.Lose(0), d.Spoil(fast(0), "a")} {
		if e != api.ErrArg {
			t.Errorf("call %d: %d", i, e)
		}
	}
	if len(d.Waits()) != 0 || d.Lost(0) || d.Lost(1) || d.Copy() != nil {
		t.Error("what nil has")
	}
}

func TestEmptyStruct(t *testing.T) { // P3.1
	d := &Devs{}
	if d.Size(0) != 0 || d.Lost(1) || len(d.Waits()) != 0 || d.Write(slow(0), "") != api.ErrArg || d.Lose(0) != api.ErrArg || d.Lost(0) {
		t.Error("devices without sectors")
	}
	if d.Flush() != api.OK || d.Crash([]bool{true}) != api.OK || d.Copy() == nil {
		t.Error("devices without sectors, that end writes")
	}
}

func TestWriteAndRead(t *testing.T) { // P3.2
	d := New(4, 2)
	mustWrite(t, d, slow(3), "a")
	mustWrite(t, d, fast(1), "b")
	mustWrite(t, d, slow(3), "c")
	wantRead(t, d, slow(3), "c")
	wantRead(t, d, fast(1), "b")
	wantRead(t, d, slow(1), "")
	wantRead(t, d, fast(0), "")
	wantWaits(t, d, slow(3), fast(1), slow(3))
	mustWrite(t, d, slow(3), "")
	wantRead(t, d, slow(3), "")
	wantWaits(t, d, slow(3), fast(1), slow(3), slow(3))
}

func TestWriteLong(t *testing.T) { // P3.2
	d := New(4, 2)
	whole := strings.Repeat("x", 1024)
	mustWrite(t, d, slow(0), whole)
	wantRead(t, d, slow(0), whole)
	if e := d.Write(slow(0), whole+"y"); e != api.ErrArg {
		t.Errorf("1025 bytes: %d", e)
	}
	wantRead(t, d, slow(0), whole)
	wantWaits(t, d, slow(0))
}

func TestNowhere(t *testing.T) { // P3.2, P3.3
	d := New(4, 2)
	mustWrite(t, d, slow(3), "a")
	for _, l := range nowhere {
		if s, e := d.Read(l); s != "" || e != api.ErrArg {
			t.Errorf("read %v: %q, %d", l, s, e)
		}
		if e := d.Write(l, "b"); e != api.ErrArg {
			t.Errorf("write %v: %d", l, e)
		}
		if e := d.Spoil(l, "b"); e != api.ErrArg {
			t.Errorf("spoil %v: %d", l, e)
		}
	}
	wantWaits(t, d, slow(3))
	wantRead(t, d, slow(3), "a")
}

func TestFlush(t *testing.T) { // P3.2
	d := New(4, 2)
	mustWrite(t, d, slow(3), "a")
	mustWrite(t, d, fast(1), "b")
	mustWrite(t, d, slow(3), "c")
	if e := d.Flush(); e != api.OK {
		t.Fatalf("%d", e)
	}
	wantWaits(t, d)
	wantRead(t, d, slow(3), "c")
	wantRead(t, d, fast(1), "b")
	wantRead(t, d, slow(0), "")
	d.Crash(nil)
	wantRead(t, d, slow(3), "c")
	wantRead(t, d, fast(1), "b")
	if e := d.Flush(); e != api.OK {
		t.Errorf("flush of nothing: %d", e)
	}
	wantRead(t, d, slow(3), "c")
}

func TestCrash(t *testing.T) { // P3.3
	for _, c := range []struct {
		keep []bool
		a, b string
	}{
		{nil, "0", ""},
		{[]bool{}, "0", ""},
		{[]bool{true}, "1", ""},
		{[]bool{false, true}, "0", "2"},
		{[]bool{false, false, true}, "3", ""},
		{[]bool{true, true, false}, "1", "2"},
		{[]bool{true, true, true}, "3", "2"},
		{[]bool{false, false, false, true, true}, "0", ""},
		{[]bool{false, false, true, true, true, true}, "3", ""},
	} {
		d := New(4, 2)
		mustWrite(t, d, slow(3), "0")
		d.Flush()
		mustWrite(t, d, slow(3), "1")
		mustWrite(t, d, fast(1), "2")
		mustWrite(t, d, slow(3), "3")
		given := slices.Clone(c.keep)
		if e := d.Crash(c.keep); e != api.OK {
			t.Errorf("%v: %d", c.keep, e)
		}
		if !slices.Equal(given, c.keep) {
			t.Errorf("%v was changed", given)
		}
		wantWaits(t, d)
		wantRead(t, d, slow(3), c.a)
		wantRead(t, d, fast(1), c.b)
		d.Crash([]bool{true, true, true})
		wantRead(t, d, slow(3), c.a)
		wantRead(t, d, fast(1), c.b)
	}
}

func TestLose(t *testing.T) { // P3.3
	d := New(4, 2)
	mustWrite(t, d, fast(1), "a")
	mustWrite(t, d, slow(1), "b")
	d.Flush()
	for i, l := range []api.Loc{fast(0), slow(0), fast(1), slow(1), fast(0)} {
		mustWrite(t, d, l, fmt.Sprint(i))
	}
	if e := d.Lose(api.Fast); e != api.OK {
		t.Fatalf("%d", e)
	}
	if !d.Lost(api.Fast) || d.Lost(api.Slow) || d.Size(api.Fast) != 2 || d.Size(api.Slow) != 4 {
		t.Error("what is lost, and how many sectors there are")
	}
	wantWaits(t, d, slow(0), slow(1))
	wantRead(t, d, slow(0), "1")
	d.Crash([]bool{true, false})
	wantRead(t, d, slow(0), "1")
	wantRead(t, d, slow(1), "b")
	wantGone(t, d, fast(0))
	wantGone(t, d, fast(1))
	if d.Write(fast(2), "c") != api.ErrArg || d.Spoil(fast(-1), "c") != api.ErrArg || d.Write(fast(0), strings.Repeat("c", 1025)) != api.ErrArg {
		t.Error("a wrong argument comes ahead of a device that is lost")
	}
	if _, e := d.Read(fast(2)); e != api.ErrArg {
		t.Errorf("read of no sector: %d", e)
	}
	if d.Lose(api.Fast) != api.OK || !d.Lost(api.Fast) {
		t.Error("lost once more")
	}
	if d.Flush() != api.OK || !d.Lost(api.Fast) {
		t.Error("lost behind a flush")
	}
	wantGone(t, d, fast(1))
}

func wantGone(t *testing.T, d *Devs, l api.Loc) {
	t.Helper()
	if s, e := d.Read(l); s != "" || e != api.ErrGone {
		t.Errorf("read %v: %q, %d", l, s, e)
	}
	if e := d.Write(l, "c"); e != api.ErrGone {
		t.Errorf("write %v: %d", l, e)
	}
	if e := d.Spoil(l, "c"); e != api.ErrGone {
		t.Errorf("spoil %v: %d", l, e)
	}
}

func TestLoseClears(t *testing.T) { // P3.3: it is lost with all that it has
	d := New(2, 2)
	mustWrite(t, d, slow(0), "a")
	d.Flush()
	mustWrite(t, d, slow(1), "b")
	d.Lose(api.Slow)
	for _, l := range [][]string{d.sides[api.Slow].has, d.sides[api.Slow].tells} {
		if !slices.Equal(l, []string{"", ""}) {
			t.Errorf("%q", l)
		}
	}
}

func TestLoseSlow(t *testing.T) { // P3.3
	d := New(4, 2)
	d.Lose(api.Slow)
	if !d.Lost(api.Slow) || d.Lost(api.Fast) {
		t.Error("the slow one")
	}
	wantGone(t, d, slow(0))
	mustWrite(t, d, fast(0), "a")
	wantRead(t, d, fast(0), "a")
	d.Lose(api.Fast)
	if !d.Lost(api.Slow) || !d.Lost(api.Fast) || len(d.Waits()) != 0 {
		t.Error("both")
	}
}

func TestLoseWrong(t *testing.T) { // P3.3
	d := New(4, 2)
	mustWrite(t, d, slow(0), "a")
	for _, dev := range []int{2, -1, 3, math.MinInt, math.MaxInt} {
		if e := d.Lose(dev); e != api.ErrArg || d.Lost(dev) {
			t.Errorf("%d: %d", dev, e)
		}
	}
	if d.Lost(0) || d.Lost(1) {
		t.Error("one was lost")
	}
	wantWaits(t, d, slow(0))
}

func TestSpoil(t *testing.T) { // P3.3
	d := New(4, 2)
	for i, l := range []api.Loc{slow(1), slow(0), fast(1), slow(1), fast(0)} {
		mustWrite(t, d, l, fmt.Sprint(i))
	}
	if e := d.Spoil(slow(1), "!"); e != api.OK {
		t.Fatalf("%d", e)
	}
	wantWaits(t, d, slow(0), fast(1), fast(0))
	wantRead(t, d, slow(1), "!")
	d.Crash([]bool{false, true})
	wantRead(t, d, slow(1), "!")
	wantRead(t, d, slow(0), "")
	wantRead(t, d, fast(1), "2")
	wantRead(t, d, fast(0), "")
	mustWrite(t, d, slow(1), "again")
	wantRead(t, d, slow(1), "again")
	whole := strings.Repeat("x", 1024)
	if d.Spoil(slow(2), whole) != api.OK || d.Spoil(slow(1), whole+"x") != api.ErrArg {
		t.Error("how long it may be")
	}
	wantWaits(t, d, slow(1))
	wantRead(t, d, slow(2), whole)
	wantRead(t, d, slow(1), "again")
}

func TestCopy(t *testing.T) { // P3.3
	d := New(4, 2)
	mustWrite(t, d, slow(0), "a")
	d.Flush()
	mustWrite(t, d, slow(0), "b")
	mustWrite(t, d, slow(1), "c")
	c := d.Copy()
	if c.Size(0) != 4 || c.Size(1) != 2 {
		t.Error("sizes")
	}
	wantWaits(t, c, slow(0), slow(1))
	wantRead(t, c, slow(0), "b")
	c.Crash(nil)
	wantRead(t, c, slow(0), "a")
	c.Lose(api.Fast)
	c.Spoil(slow(3), "!")
	mustWrite(t, c, slow(2), "e")

	wantWaits(t, d, slow(0), slow(1))
	wantRead(t, d, slow(0), "b")
	wantRead(t, d, slow(2), "")
	wantRead(t, d, slow(3), "")
	if d.Lost(api.Fast) || !c.Copy().Lost(api.Fast) {
		t.Error("what is lost")
	}
	mustWrite(t, d, slow(3), "f")
	d.Spoil(slow(1), "g")
	wantWaits(t, c, slow(2))
	wantRead(t, c, slow(3), "!")
	wantRead(t, c, slow(1), "")
}

func TestCopyWaits(t *testing.T) { // P3.3: no copy sees the other one's writes
	d := New(4, 2)
	for range 3 {
		mustWrite(t, d, slow(0), "a")
	}
	c := d.Copy()
	mustWrite(t, d, slow(1), "d")
	mustWrite(t, c, slow(2), "c")
	d.Spoil(slow(0), "!")
	wantWaits(t, d, slow(1))
	wantWaits(t, c, slow(0), slow(0), slow(0), slow(2))
	c.Flush()
	wantRead(t, c, slow(0), "a")
	wantRead(t, c, slow(1), "")
	wantRead(t, c, slow(2), "c")
}

func TestCopyHas(t *testing.T) { // P3.3: nor what the other one's sectors have
	d := New(4, 2)
	mustWrite(t, d, slow(0), "a")
	d.Flush()
	c := d.Copy()
	d.Spoil(slow(0), "d")
	c.Spoil(fast(0), "c")
	d.Crash(nil)
	c.Crash(nil)
	wantRead(t, d, slow(0), "d")
	wantRead(t, d, fast(0), "")
	wantRead(t, c, slow(0), "a")
	wantRead(t, c, fast(0), "c")
}

func TestWaitsIsNew(t *testing.T) { // P3.2
	d := New(4, 2)
	mustWrite(t, d, slow(0), "a")
	l := d.Waits()
	l[0] = fast(1)
	wantWaits(t, d, slow(0))
	l = d.Waits()
	d.Spoil(slow(0), "b")
	mustWrite(t, d, fast(0), "c")
	if !slices.Equal(l, []api.Loc{slow(0)}) {
		t.Errorf("%v", l)
	}
}

func TestFlushedStays(t *testing.T) { // P3.4
	for seed := range int64(50) {
		r := rand.New(rand.NewSource(seed))
		d := New(5, 3)
		flushed := map[api.Loc]string{}
		for i := range 20 {
			l := api.Loc{Dev: i % 2, At: r.Intn(3)}
			flushed[l] = fmt.Sprint(i)
			mustWrite(t, d, l, flushed[l])
		}
		d.Flush()
		for range 5 {
			mustWrite(t, d, slow(3+r.Intn(2)), "later")
		}
		keep := make([]bool, r.Intn(8))
		for i := range keep {
			keep[i] = r.Intn(2) == 0
		}
		d.Crash(keep)
		for l, s := range flushed {
			wantRead(t, d, l, s)
		}
	}
}

// plain is the document's words, done slowly.
type plain struct {
	size  [2]int
	has   map[api.Loc]string
	waits []write
	lost  [2]bool
}

func (p *plain) read(l api.Loc) string {
	for _, w := range slices.Backward(p.waits) {
		if w.loc == l {
			return w.text
		}
	}
	return p.has[l]
}

func (p *plain) drop(of func(l api.Loc) bool) {
	var l []write
	for _, w := range p.waits {
		if !of(w.loc) {
			l = append(l, w)
		}
	}
	p.waits = l
}

func (p *plain) crash(keep []bool) {
	for i, w := range p.waits {
		if i < len(keep) && keep[i] {
			p.has[w.loc] = w.text
		}
	}
	p.waits = nil
}

func TestAgainstPlain(t *testing.T) { // P3.2, P3.3
	for seed := range int64(100) {
		r := rand.New(rand.NewSource(seed))
		d := New(4, 3)
		p := &plain{size: [2]int{4, 3}, has: map[api.Loc]string{}}
		for i := range 200 {
			l := api.Loc{Dev: r.Intn(2), At: r.Intn(3)}
			s := fmt.Sprint(i)
			step(d, p, r, l, s)
			compare(t, d, p)
		}
	}
}

func step(d *Devs, p *plain, r *rand.Rand, l api.Loc, s string) {
	do := r.Intn(100)
	switch {
	case do < 70:
		if d.Write(l, s) == api.OK {
			p.waits = append(p.waits, write{l, s})
		}
	case do < 80:
		if d.Spoil(l, s) == api.OK {
			p.drop(func(o api.Loc) bool { return o == l })
			p.has[l] = s
		}
	case do < 89:
		d.Flush()
		p.crash(slices.Repeat([]bool{true}, len(p.waits)))
	case do < 99:
		keep := make([]bool, r.Intn(10))
		for i := range keep {
			keep[i] = r.Intn(2) == 0
		}
		d.Crash(keep)
		p.crash(keep)
	case r.Intn(3) == 0:
		d.Lose(l.Dev)
		p.lost[l.Dev] = true
		p.drop(func(o api.Loc) bool { return o.Dev == l.Dev })
	}
}

func compare(t *testing.T, d *Devs, p *plain) {
	t.Helper()
	var waits []api.Loc
	for _, w := range p.waits {
		waits = append(waits, w.loc)
	}
	wantWaits(t, d, waits...)
	for dev, n := range p.size {
		for at := range n {
			l := api.Loc{Dev: dev, At: at}
			if p.lost[dev] {
				wantGone(t, d, l)
			} else {
				wantRead(t, d, l, p.read(l))
			}
		}
	}
}
