package blk

import (
	"fmt"
	"math"
	"math/rand"
	"slices"
	"strings"
	"testing"

	"permafrost/api"
	"permafrost/dev"
	"permafrost/ptr"
	"permafrost/sum"
)

func slow(at int) api.Loc { return api.Loc{Dev: api.Slow, At: at} }

func fast(at int) api.Loc { return api.Loc{Dev: api.Fast, At: at} }

// block writes load to locs, and flushes.
func block(t *testing.T, d *dev.Devs, load string, locs ...api.Loc) api.Ptr {
	t.Helper()
	p, e := Write(d, locs, load, 7)
	if e != api.OK {
		t.Fatalf("write to %v: %d", locs, e)
	}
	d.Flush()
	return p
}

func wantRead(t *testing.T, d *dev.Devs, p api.Ptr, load string, number int, good ...bool) {
	t.Helper()
	if s, n, e := Read(d, p); s != load || n != number || e != api.OK {
		t.Errorf("%q, %d, %d, not %q, %d", s, n, e, load, number)
	}
	wantGood(t, d, p, good...)
}

func wantLost(t *testing.T, d *dev.Devs, p api.Ptr) {
	t.Helper()
	if s, n, e := Read(d, p); s != "" || n != 0 || e != api.ErrLost {
		t.Errorf("%q, %d, %d", s, n, e)
	}
	wantGood(t, d, p, make([]bool, len(p.Locs))...)
	waits := d.Waits()
	if n, e := Mend(d, p); n != 0 || e != api.ErrLost {
		t.Errorf("mend: %d, %d", n, e)
	}
	if !slices.Equal(d.Waits(), waits) {
		t.Errorf("what mend wrote: %v", d.Waits())
	}
}

func wantGood(t *testing.T, d *dev.Devs, p api.Ptr, good ...bool) {
	t.Helper()
	if l := Good(d, p); !slices.Equal(l, good) {
		t.Errorf("good: %v, not %v", l, good)
	}
}

// wantMended asks for what is written, and where: these writes wait.
func wantMended(t *testing.T, d *dev.Devs, p api.Ptr, locs ...api.Loc) {
	t.Helper()
	waits := d.Waits()
	if n, e := Mend(d, p); n != len(locs) || e != api.OK {
		t.Errorf("mend: %d, %d, not %d", n, e, len(locs))
	}
	if l := d.Waits(); !slices.Equal(l, append(waits, locs...)) {
		t.Errorf("what mend wrote: %v, not %v", l, locs)
	}
}

func TestWrite(t *testing.T) { // P5.1
	whole := strings.Repeat("x", 960)
	for i, c := range []struct {
		locs  []api.Loc
		load  string
		birth int
	}{
		{[]api.Loc{slow(9)}, "a", 0},
		{[]api.Loc{fast(4)}, "", 1},
		{[]api.Loc{slow(0), fast(0)}, "hello", 9},
		{[]api.Loc{fast(4), slow(9)}, whole, 1 << 40},
		{[]api.Loc{slow(3)}, "\x00\xff\x00", 1<<40 - 1},
	} {
		d := dev.New(10, 5)
		given := slices.Clone(c.locs)
		p, e := Write(d, c.locs, c.load, c.birth)
		want := api.Ptr{Locs: given, Len: len(c.load), Birth: c.birth, Sum: sum.Of(c.load)}
		if e != api.OK || !ptr.Same(p, want) {
			t.Errorf("case %d: %v, %d", i, p, e)
		}
		if !slices.Equal(d.Waits(), given) {
			t.Errorf("case %d: what waits: %v", i, d.Waits())
		}
		for _, l := range given {
			if s, e := d.Read(l); s != c.load || e != api.OK {
				t.Errorf("case %d: %v: %q, %d", i, l, s, e)
			}
		}
		if !slices.Equal(c.locs, given) {
			t.Errorf("case %d: locs were changed", i)
		}
	}
}

func TestWriteKeepsNoLocs(t *testing.T) { // P5.1
	d := dev.New(10, 5)
	locs := []api.Loc{slow(1), fast(2)}
	p, _ := Write(d, locs, "a", 0)
	locs[0] = slow(3)
	if p.Locs[0] != slow(1) {
		t.Errorf("%v", p.Locs)
	}
	p.Locs[1] = fast(4)
	if locs[1] != fast(2) {
		t.Errorf("%v", locs)
	}
}

func TestWriteWrong(t *testing.T) { // P5.1
	good := []api.Loc{slow(1), fast(1)}
	for name, c := range map[string]struct {
		locs  []api.Loc
		load  string
		birth int
	}{
		"no Locs":                 {nil, "a", 0},
		"an empty list":           {[]api.Loc{}, "a", 0},
		"three Locs":              {[]api.Loc{slow(1), fast(1), slow(2)}, "a", 0},
		"both slow":               {[]api.Loc{slow(1), slow(2)}, "a", 0},
		"one Loc twice":           {[]api.Loc{fast(1), fast(1)}, "a", 0},
		"no slow sector":          {[]api.Loc{slow(10)}, "a", 0},
		"no fast sector":          {[]api.Loc{fast(5)}, "a", 0},
		"first no sector":         {[]api.Loc{slow(10), fast(4)}, "a", 0},
		"second no sector":        {[]api.Loc{slow(9), fast(5)}, "a", 0},
		"sector -1":               {[]api.Loc{slow(-1)}, "a", 0},
		"the greatest sector":     {[]api.Loc{slow(math.MaxInt)}, "a", 0},
		"device 2":                {[]api.Loc{{Dev: 2}}, "a", 0},
		"device -1":               {[]api.Loc{{Dev: -1}}, "a", 0},
		"second on device 2":      {[]api.Loc{slow(1), {Dev: 2}}, "a", 0},
		"961 bytes":               {good, strings.Repeat("a", 961), 0},
		"1024 bytes":              {good, strings.Repeat("a", 1024), 0},
		"1025 bytes":              {good, strings.Repeat("a", 1025), 0},
		"born at -1":              {good, "a", -1},
		"born too late":           {good, "a", 1<<40 + 1},
		"born as late as may be":  {good, "a", math.MaxInt},
		"born as early as may be": {good, "a", math.MinInt},
	} {
		for _, lost := range []int{-1, api.Slow, api.Fast} {
			d := dev.New(10, 5)
			d.Lose(lost)
			if p, e := Write(d, c.locs, c.load, c.birth); e != api.ErrArg || !ptr.Same(p, api.Ptr{}) {
				t.Errorf("%s, lost %d: %v, %d", name, lost, p, e)
			}
			if len(d.Waits()) != 0 {
				t.Errorf("%s, lost %d: it was written", name, lost)
			}
		}
	}
}

func TestWriteNil(t *testing.T) { // P5.1: nil has no sector
	for _, d := range []*dev.Devs{nil, {}} {
		if p, e := Write(d, []api.Loc{slow(0)}, "a", 0); e != api.ErrArg || !ptr.Same(p, api.Ptr{}) {
			t.Errorf("%v, %d", p, e)
		}
	}
}

func TestWriteGone(t *testing.T) { // P5.1
	for _, locs := range [][]api.Loc{{fast(1)}, {fast(1), slow(1)}, {slow(1), fast(1)}} {
		d := dev.New(10, 5)
		d.Lose(api.Fast)
		if p, e := Write(d, locs, "a", 0); e != api.ErrGone || !ptr.Same(p, api.Ptr{}) {
			t.Errorf("%v: %v, %d", locs, p, e)
		}
		if s, e := d.Read(slow(1)); len(d.Waits()) != 0 || s != "" || e != api.OK {
			t.Errorf("%v: it was written", locs)
		}
		if _, e := Write(d, []api.Loc{slow(1)}, "a", 0); e != api.OK {
			t.Errorf("on the other one: %d", e)
		}
	}
	d := dev.New(10, 5)
	d.Lose(api.Slow)
	if _, e := Write(d, []api.Loc{slow(1)}, "a", 0); e != api.ErrGone {
		t.Errorf("slow: %d", e)
	}
}

func TestReadTheFirstGood(t *testing.T) { // P5.2
	d := dev.New(10, 5)
	p := block(t, d, "hello", fast(3), slow(4))
	wantRead(t, d, p, "hello", 0, true, true)
	d.Spoil(slow(4), "hellO")
	wantRead(t, d, p, "hello", 0, true, false)
	d.Spoil(slow(4), "hello")
	for _, bad := range []string{"hellO", "hello!", "hell", "", "hello\x00", strings.Repeat("hello", 200)} {
		d.Spoil(fast(3), bad)
		wantRead(t, d, p, "hello", 1, false, true)
	}
	d.Spoil(slow(4), "Hello")
	wantLost(t, d, p)
	if len(d.Waits()) != 0 {
		t.Error("a read wrote")
	}
}

func TestReadOne(t *testing.T) { // P5.2
	d := dev.New(10, 5)
	p := block(t, d, "a", slow(9))
	wantRead(t, d, p, "a", 0, true)
	d.Lose(api.Fast)
	wantRead(t, d, p, "a", 0, true)
	d.Spoil(slow(9), "b")
	wantLost(t, d, p)
}

func TestReadWhatWaits(t *testing.T) { // P5.2
	d := dev.New(10, 5)
	p, _ := Write(d, []api.Loc{slow(1), fast(1)}, "a", 0)
	wantRead(t, d, p, "a", 0, true, true)
	d.Crash([]bool{false, true})
	wantRead(t, d, p, "a", 1, false, true)
}

func TestReadLost(t *testing.T) { // P5.2
	d := dev.New(10, 5)
	p := block(t, d, "a", slow(1), fast(1))
	d.Lose(api.Slow)
	wantRead(t, d, p, "a", 1, false, true)
	d.Lose(api.Fast)
	wantLost(t, d, p)
}

func TestReadEmpty(t *testing.T) { // P5.2: nothing is read of what is lost, not even the empty text
	d := dev.New(10, 5)
	p := block(t, d, "", slow(1), fast(1))
	wantRead(t, d, p, "", 0, true, true)
	other := p
	other.Locs = []api.Loc{slow(7)}
	wantRead(t, d, other, "", 0, true)
	other.Locs = []api.Loc{fast(5), slow(10)}
	wantLost(t, d, other)
	d.Lose(api.Slow)
	wantRead(t, d, p, "", 1, false, true)
	d.Lose(api.Fast)
	wantLost(t, d, p)
	wantLost(t, nil, p)
	wantLost(t, &dev.Devs{}, p)
}

func TestReadLenAndSum(t *testing.T) { // P5.2: both are asked
	d := dev.New(10, 5)
	p := block(t, d, "abc", slow(1), fast(1))
	longer := p
	longer.Len = 4
	wantLost(t, d, longer)
	shorter := p
	shorter.Len = 2
	wantLost(t, d, shorter)
	other := p
	other.Sum = sum.Of("abd")
	wantLost(t, d, other)
	later := p
	later.Birth = 1 << 40
	wantRead(t, d, later, "abc", 0, true, true)
}

func TestReadNoSector(t *testing.T) { // P5.2
	d := dev.New(10, 5)
	p := block(t, d, "abc", slow(1), fast(1))
	p.Locs = []api.Loc{fast(5), slow(1)}
	wantRead(t, d, p, "abc", 1, false, true)
	p.Locs = []api.Loc{fast(1), slow(511)}
	wantRead(t, d, p, "abc", 0, true, false)
	p.Locs = []api.Loc{fast(5), slow(10)}
	wantLost(t, d, p)
	wantLost(t, nil, p)
}

// refused has pointers that ptr.Check refuses; each differs from p in one thing.
func refused(p api.Ptr) []api.Ptr {
	l := []api.Ptr{{}}
	for _, change := range []func(p *api.Ptr){
		func(p *api.Ptr) { p.Locs = nil },
		func(p *api.Ptr) { p.Locs = append(slices.Clone(p.Locs), slow(2)) },
		func(p *api.Ptr) { p.Locs = []api.Loc{p.Locs[0], p.Locs[0]} },
		func(p *api.Ptr) { p.Locs = []api.Loc{p.Locs[0], {Dev: 2, At: 1}} },
		func(p *api.Ptr) { p.Locs = []api.Loc{{Dev: -1, At: 1}, p.Locs[0]} },
		func(p *api.Ptr) { p.Locs = []api.Loc{slow(512)} },
		func(p *api.Ptr) { p.Locs = []api.Loc{slow(-1)} },
		func(p *api.Ptr) { p.Len = -1 },
		func(p *api.Ptr) { p.Len = 961 },
		func(p *api.Ptr) { p.Birth = -1 },
		func(p *api.Ptr) { p.Birth = 1<<40 + 1 },
		func(p *api.Ptr) { p.Sum = p.Sum[1:] },
		func(p *api.Ptr) { p.Sum += "x" },
	} {
		other := p
		change(&other)
		l = append(l, other)
	}
	return l
}

func TestRefused(t *testing.T) { // P5.2, P5.3
	d := dev.New(10, 5)
	p := block(t, d, "abc", slow(1), fast(1))
	d.Spoil(fast(1), "abd")
	for i, other := range refused(p) {
		for _, on := range []*dev.Devs{d, nil} {
			if s, n, e := Read(on, other); s != "" || n != 0 || e != api.ErrArg {
				t.Errorf("pointer %d: read: %q, %d, %d", i, s, n, e)
			}
			if l := Good(on, other); len(l) != 0 {
				t.Errorf("pointer %d: good: %v", i, l)
			}
			if n, e := Mend(on, other); n != 0 || e != api.ErrArg {
				t.Errorf("pointer %d: mend: %d, %d", i, n, e)
			}
		}
	}
	if len(d.Waits()) != 0 {
		t.Error("something was written")
	}
}

func TestGoodIsNew(t *testing.T) { // P5.2
	d := dev.New(10, 5)
	p := block(t, d, "abc", slow(1), fast(1))
	l := Good(d, p)
	l[0] = false
	wantGood(t, d, p, true, true)
}

func TestMend(t *testing.T) { // P5.3
	d := dev.New(10, 5)
	p := block(t, d, "abc", fast(1), slow(1))
	wantMended(t, d, p)
	d.Spoil(fast(1), "abd")
	wantMended(t, d, p, fast(1))
	wantRead(t, d, p, "abc", 0, true, true)
	wantMended(t, d, p)
	d.Crash(nil)
	wantRead(t, d, p, "abc", 1, false, true)
	wantMended(t, d, p, fast(1))
	d.Flush()
	d.Spoil(slow(1), "")
	wantMended(t, d, p, slow(1))
	d.Flush()
	d.Crash(nil)
	wantRead(t, d, p, "abc", 0, true, true)
	for _, l := range p.Locs {
		if s, e := d.Read(l); s != "abc" || e != api.OK {
			t.Errorf("%v: %q, %d", l, s, e)
		}
	}
}

func TestMendOne(t *testing.T) { // P5.3
	d := dev.New(10, 5)
	p := block(t, d, "abc", fast(1))
	wantMended(t, d, p)
	d.Spoil(fast(1), "abd")
	wantLost(t, d, p)
}

func TestMendWhatCantBe(t *testing.T) { // P5.3: no sector, and a device that is lost
	d := dev.New(10, 5)
	p := block(t, d, "abc", slow(1), fast(1))
	for _, locs := range [][]api.Loc{{slow(10), fast(1)}, {fast(1), slow(511)}, {fast(5), slow(1)}} {
		other := p
		other.Locs = locs
		wantMended(t, d, other)
	}
	d.Lose(api.Slow)
	wantMended(t, d, p)
	wantRead(t, d, p, "abc", 1, false, true)
	empty := block(t, d, "", fast(2))
	empty.Locs = []api.Loc{slow(2), fast(2)}
	wantMended(t, d, empty)
	d.Lose(api.Fast)
	wantLost(t, d, p)
	wantLost(t, nil, p)
}

func TestPointerStays(t *testing.T) { // P5.2, P5.3: what is handed in is not changed
	d := dev.New(10, 5)
	p := block(t, d, "abc", slow(1), fast(1))
	d.Spoil(slow(1), "")
	given := slices.Clone(p.Locs)
	Read(d, p)
	Good(d, p)
	Mend(d, p)
	if !slices.Equal(p.Locs, given) {
		t.Errorf("%v", p.Locs)
	}
}

func TestReadIsNeverWrong(t *testing.T) { // P5.4
	for seed := range int64(200) {
		r := rand.New(rand.NewSource(seed))
		d := dev.New(6, 6)
		var blocks []api.Ptr
		loads := map[string]string{}
		for i := range 8 {
			load := fmt.Sprint("load ", i)[:5+i%2]
			locs := []api.Loc{slow(r.Intn(6)), fast(r.Intn(6))}[r.Intn(2):]
			p := block(t, d, load, locs...)
			blocks = append(blocks, p)
			loads[p.Sum] = load
		}
		for range 20 {
			harm(d, r)
			for _, p := range blocks {
				wantRight(t, d, p, loads[p.Sum])
			}
		}
	}
}

func harm(d *dev.Devs, r *rand.Rand) {
	l := api.Loc{Dev: r.Intn(2), At: r.Intn(6)}
	switch do := r.Intn(40); {
	case do == 0:
		d.Lose(l.Dev)
	case do < 10:
		d.Crash([]bool{r.Intn(2) == 0})
	case do < 15:
		d.Flush()
	case do < 25:
		d.Spoil(l, "")
	default:
		s, _ := d.Read(api.Loc{Dev: r.Intn(2), At: r.Intn(6)})
		d.Spoil(l, s)
	}
}

// wantRight asks for the load, or that it is lost; what is mended is as before.
func wantRight(t *testing.T, d *dev.Devs, p api.Ptr, load string) {
	t.Helper()
	s, n, e := Read(d, p)
	first := slices.Index(Good(d, p), true)
	if first < 0 {
		wantLost(t, d, p)
		return
	}
	if s != load || sum.Of(s) != p.Sum || n != first || e != api.OK {
		t.Fatalf("%v: %q, %d, %d, not %q, %d", p.Locs, s, n, e, load, first)
	}
	if _, e := Mend(d, p); e != api.OK {
		t.Fatalf("mend: %d", e)
	}
	for i, is := range Good(d, p) {
		if !is && !d.Lost(p.Locs[i].Dev) {
			t.Fatalf("%v: not mended", p.Locs[i])
		}
	}
}
