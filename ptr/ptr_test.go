package ptr

import (
	"math"
	"math/rand"
	"slices"
	"strings"
	"testing"

	"permafrost/api"
)

const sum = "0123456789abcdef0123456789abcdef"

func one() api.Ptr {
	return api.Ptr{Locs: []api.Loc{{Dev: api.Fast, At: 258}}, Len: 515, Birth: 0x0102030405, Sum: sum}
}

func two() api.Ptr {
	return api.Ptr{Locs: []api.Loc{{Dev: api.Fast, At: 3}, {Dev: api.Slow, At: 511}}, Len: 960, Birth: 1 << 40, Sum: sum}
}

const (
	oneText = "\x01" + "\x01\x02\x01" + "\x03\x02" + "\x05\x04\x03\x02\x01\x00" + sum
	twoText = "\x02" + "\x01\x03\x00" + "\x00\xff\x01" + "\xc0\x03" + "\x00\x00\x00\x00\x00\x01" + sum
)

// wrong has pointers that differ from a good one in one thing each.
func wrong() map[string]api.Ptr {
	l := map[string]api.Ptr{"nothing": {}}
	change := func(name string, by func(p *api.Ptr)) {
		p := two()
		by(&p)
		l[name] = p
	}
	change("no Locs", func(p *api.Ptr) { p.Locs = nil })
	change("an empty list of Locs", func(p *api.Ptr) { p.Locs = []api.Loc{} })
	change("three Locs", func(p *api.Ptr) { p.Locs = append(p.Locs, api.Loc{At: 9}) })
	change("both slow", func(p *api.Ptr) { p.Locs[0].Dev = api.Slow })
	change("both fast", func(p *api.Ptr) { p.Locs[1].Dev = api.Fast })
	change("one Loc twice", func(p *api.Ptr) { p.Locs[1] = p.Locs[0] })
	for i, which := range []string{"first", "second"} {
		change(which+", device 2", func(p *api.Ptr) { p.Locs[i].Dev = 2 })
		change(which+", device -1", func(p *api.Ptr) { p.Locs[i].Dev = -1 })
		change(which+", device 256", func(p *api.Ptr) { p.Locs[i].Dev = 256 })
		change(which+", at 512", func(p *api.Ptr) { p.Locs[i].At = 512 })
		change(which+", at -1", func(p *api.Ptr) { p.Locs[i].At = -1 })
		change(which+", at 65536", func(p *api.Ptr) { p.Locs[i].At = 65536 })
		change(which+", at the least", func(p *api.Ptr) { p.Locs[i].At = math.MinInt })
	}
	change("length 961", func(p *api.Ptr) { p.Len = 961 })
	change("length -1", func(p *api.Ptr) { p.Len = -1 })
	change("length 65536", func(p *api.Ptr) { p.Len = 65536 })
	change("born too late", func(p *api.Ptr) { p.Birth = 1<<40 + 1 })
	change("born latest", func(p *api.Ptr) { p.Birth = math.MaxInt })
	change("born at -1", func(p *api.Ptr) { p.Birth = -1 })
	change("no digest", func(p *api.Ptr) { p.Sum = "" })
	change("31 bytes", func(p *api.Ptr) { p.Sum = sum[1:] })
	change("33 bytes", func(p *api.Ptr) { p.Sum = sum + "x" })
	return l
}

func TestCheck(t *testing.T) { // P4.1
	swapped := two()
	slices.Reverse(swapped.Locs)
	least := api.Ptr{Locs: []api.Loc{{}}, Sum: sum}
	last := api.Ptr{Locs: []api.Loc{{At: 511}}, Len: 960, Birth: 1 << 40, Sum: strings.Repeat("\xff", 32)}
	for i, p := range []api.Ptr{one(), two(), swapped, least, last} {
		if e := Check(p); e != api.OK {
			t.Errorf("pointer %d: %d", i, e)
		}
	}
}

func TestCheckWrong(t *testing.T) { // P4.1, P4.2
	for name, p := range wrong() {
		if e := Check(p); e != api.ErrArg {
			t.Errorf("%s: %d", name, e)
		}
		if s, e := Encode(p); s != "" || e != api.ErrArg {
			t.Errorf("%s: %q, %d", name, s, e)
		}
	}
}

func TestCheckEachLoc(t *testing.T) { // P4.1
	for _, l := range []api.Loc{{Dev: 2}, {Dev: -1}, {Dev: 1, At: 512}, {Dev: 1, At: -1}} {
		good := api.Loc{Dev: api.Slow, At: 1}
		for _, locs := range [][]api.Loc{{l}, {l, good}, {good, l}} {
			if Check(api.Ptr{Locs: locs, Sum: sum}) != api.ErrArg {
				t.Errorf("%v", locs)
			}
		}
	}
}

func TestEncode(t *testing.T) { // P4.2
	for i, c := range []struct {
		p    api.Ptr
		want string
	}{{one(), oneText}, {two(), twoText}} {
		given := slices.Clone(c.p.Locs)
		if s, e := Encode(c.p); s != c.want || e != api.OK {
			t.Errorf("pointer %d: %q, %d", i, s, e)
		}
		if !slices.Equal(given, c.p.Locs) {
			t.Errorf("pointer %d was changed", i)
		}
	}
	if len(oneText) != 44 {
		t.Errorf("one Loc: %d bytes", len(oneText))
	}
}

func TestDecode(t *testing.T) { // P4.2
	for i, c := range []struct {
		s    string
		want api.Ptr
	}{{oneText, one()}, {twoText, two()}} {
		p, e := Decode(c.s)
		if e != api.OK || !slices.Equal(p.Locs, c.want.Locs) || p.Len != c.want.Len || p.Birth != c.want.Birth || p.Sum != c.want.Sum {
			t.Errorf("text %d: %v, %d", i, p, e)
		}
	}
}

func wantNone(t *testing.T, s string, want api.Errno) {
	t.Helper()
	p, e := Decode(s)
	if e != want || p.Locs != nil || p.Len != 0 || p.Birth != 0 || p.Sum != "" {
		t.Errorf("%q: %v, %d, not %d", s, p, e, want)
	}
}

func TestDecodeCut(t *testing.T) { // P4.2
	for _, s := range []string{oneText, twoText} {
		for n := range len(s) {
			wantNone(t, s[:n], api.ErrCut)
		}
	}
	// What is cut is cut, whatever stands ahead of the cut.
	wantNone(t, "\x02\x09\xff\xff\x09", api.ErrCut)
	wantNone(t, "\x01\x07\xff\xff\xff\xff\xff\xff\xff\xff\xff\xff"+sum[1:], api.ErrCut)
}

func TestDecodeCount(t *testing.T) { // P4.2: at once, so ahead of what is cut
	for n := range 256 {
		s := string([]byte{byte(n)})
		if n == 1 || n == 2 {
			wantNone(t, s, api.ErrCut)
		} else {
			wantNone(t, s, api.ErrForm)
			wantNone(t, s+oneText[1:], api.ErrForm)
			wantNone(t, s+strings.Repeat("\x00", 3*n+40), api.ErrForm)
		}
	}
}

func TestDecodeForm(t *testing.T) { // P4.2
	for _, s := range []string{
		oneText + "x",
		twoText + "\x00",
		"\x01" + "\x02\x00\x00" + "\x00\x00" + "\x00\x00\x00\x00\x00\x00" + sum,
		"\x01" + "\xff\x00\x00" + "\x00\x00" + "\x00\x00\x00\x00\x00\x00" + sum,
		"\x01" + "\x00\x00\x02" + "\x00\x00" + "\x00\x00\x00\x00\x00\x00" + sum,
		"\x01" + "\x00\xff\xff" + "\x00\x00" + "\x00\x00\x00\x00\x00\x00" + sum,
		"\x01" + "\x00\x00\x00" + "\xc1\x03" + "\x00\x00\x00\x00\x00\x00" + sum,
		"\x01" + "\x00\x00\x00" + "\xff\xff" + "\x00\x00\x00\x00\x00\x00" + sum,
		"\x01" + "\x00\x00\x00" + "\x00\x00" + "\x01\x00\x00\x00\x00\x01" + sum,
		"\x01" + "\x00\x00\x00" + "\x00\x00" + "\xff\xff\xff\xff\xff\xff" + sum,
		"\x02" + "\x00\x00\x00" + "\x00\x01\x00" + "\x00\x00" + "\x00\x00\x00\x00\x00\x00" + sum,
		"\x02" + "\x01\x00\x00" + "\x01\x01\x00" + "\x00\x00" + "\x00\x00\x00\x00\x00\x00" + sum,
	} {
		wantNone(t, s, api.ErrForm)
	}
}

func TestDecodeIsNew(t *testing.T) { // P4.2
	a, _ := Decode(twoText)
	a.Locs[0] = api.Loc{}
	b, _ := Decode(twoText)
	if !Same(b, two()) {
		t.Errorf("%v", b)
	}
}

func TestSame(t *testing.T) { // P4.3
	if !Same(one(), one()) || !Same(two(), two()) || Same(one(), two()) || !Same(api.Ptr{}, api.Ptr{Locs: []api.Loc{}}) {
		t.Error("pointers as they are")
	}
	for i, change := range []func(p *api.Ptr){
		func(p *api.Ptr) { p.Locs[0].Dev = 0 },
		func(p *api.Ptr) { p.Locs[1].Dev = 1 },
		func(p *api.Ptr) { p.Locs[0].At++ },
		func(p *api.Ptr) { p.Locs[1].At-- },
		func(p *api.Ptr) { p.Locs = p.Locs[:1] },
		func(p *api.Ptr) { p.Locs = append(p.Locs, api.Loc{}) },
		func(p *api.Ptr) { slices.Reverse(p.Locs) },
		func(p *api.Ptr) { p.Len-- },
		func(p *api.Ptr) { p.Birth-- },
		func(p *api.Ptr) { p.Sum = strings.ToUpper(p.Sum) },
		func(p *api.Ptr) { p.Sum = p.Sum[1:] },
	} {
		p := two()
		change(&p)
		if Same(p, two()) || Same(two(), p) || !Same(p, p) {
			t.Errorf("change %d", i)
		}
	}
}

func TestOn(t *testing.T) { // P4.3
	fastOne := one()
	slowOne := api.Ptr{Locs: []api.Loc{{Dev: api.Slow, At: 1}}}
	for i, c := range []struct {
		p    api.Ptr
		dev  int
		want bool
	}{
		{fastOne, api.Fast, true}, {fastOne, api.Slow, false},
		{slowOne, api.Slow, true}, {slowOne, api.Fast, false},
		{two(), api.Slow, true}, {two(), api.Fast, true},
		{two(), 2, false}, {two(), -1, false}, {two(), 3, false}, {two(), math.MaxInt, false},
		{api.Ptr{}, api.Slow, false}, {api.Ptr{}, api.Fast, false},
	} {
		if On(c.p, c.dev) != c.want {
			t.Errorf("case %d", i)
		}
	}
}

// draw makes a pointer that Check lets pass.
func draw(r *rand.Rand) api.Ptr {
	p := api.Ptr{Len: r.Intn(961), Birth: r.Intn(1<<40 + 1)}
	first := r.Intn(2)
	p.Locs = append(p.Locs, api.Loc{Dev: first, At: r.Intn(512)})
	if r.Intn(2) == 0 {
		p.Locs = append(p.Locs, api.Loc{Dev: 1 - first, At: r.Intn(512)})
	}
	b := make([]byte, 32)
	r.Read(b)
	p.Sum = string(b)
	return p
}

func TestTextTells(t *testing.T) { // P4.4
	r := rand.New(rand.NewSource(4))
	for range 2000 {
		p := draw(r)
		s, e := Encode(p)
		if e != api.OK {
			t.Fatalf("%v: %d", p, e)
		}
		if back, e := Decode(s); e != api.OK || !Same(back, p) {
			t.Fatalf("%v: %v, %d", p, back, e)
		}
		// Whatever else decodes is another pointer, and its own text.
		b := []byte(s)
		b[r.Intn(len(b))] ^= byte(1 + r.Intn(255))
		other, e := Decode(string(b))
		if e != api.OK {
			continue
		}
		if again, _ := Encode(other); again != string(b) || Same(other, p) {
			t.Fatalf("%q: %v", b, other)
		}
	}
}
