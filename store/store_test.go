package store

import (
	"fmt"
	"math"
	"math/rand"
	"slices"
	"strings"
	"testing"

	"permafrost/api"
	"permafrost/arc"
	"permafrost/class"
	"permafrost/dev"
	"permafrost/ptr"
	"permafrost/second"
	"permafrost/sum"
)

func slow(at int) api.Loc { return api.Loc{Dev: api.Slow, At: at} }

func fast(at int) api.Loc { return api.Loc{Dev: api.Fast, At: at} }

// open is a store that has to be.
func open(t *testing.T, d *dev.Devs, p api.Policy, used []api.Loc, txg int) *Store {
	t.Helper()
	s, e := Open(d, p, used, txg)
	if s == nil || e != api.OK {
		t.Fatalf("Open: %d", e)
	}
	return s
}

func free(t *testing.T, s *Store, onSlow int, onFast int) {
	t.Helper()
	if a, b := s.Free(); a != onSlow || b != onFast {
		t.Errorf("Free: %d, %d, want %d, %d", a, b, onSlow, onFast)
	}
}

func hits(t *testing.T, s *Store, kept int, had int, read int) {
	t.Helper()
	if a, b, c := s.Hits(); a != kept || b != had || c != read {
		t.Errorf("Hits: %d, %d, %d, want %d, %d, %d", a, b, c, kept, had, read)
	}
}

func get(t *testing.T, s *Store, ref string, text string, want api.Errno) {
	t.Helper()
	if x, e := s.Get(ref); x != text || e != want {
		t.Errorf("Get: %q, %d, want %q, %d", x, e, text, want)
	}
}

// put tells a ref, that has to be of these sectors.
func put(t *testing.T, s *Store, do func(*Store, string) (string, api.Errno), text string, txg int, locs ...api.Loc) string {
	t.Helper()
	ref, e := do(s, text)
	want, _ := ptr.Encode(api.Ptr{Locs: locs, Len: len(text), Birth: txg, Sum: sum.Of(text)})
	if ref != want || e != api.OK {
		p, _ := ptr.Decode(ref)
		t.Fatalf("%.20q: %v, %d, want %v", text, p, e, locs)
	}
	for _, l := range locs {
		if x, e := s.Devs().Read(l); x != text || e != api.OK {
			t.Errorf("%v: %.20q, %d", l, x, e)
		}
	}
	return ref
}

func refuse(t *testing.T, s *Store, do func(*Store, string) (string, api.Errno), text string, want api.Errno) {
	t.Helper()
	was := told(s.Devs())
	a, b := s.Free()
	if ref, e := do(s, text); ref != "" || e != want {
		t.Errorf("%.20q: %q, %d, want %d", text, ref, e, want)
	}
	free(t, s, a, b)
	if told(s.Devs()) != was {
		t.Errorf("%.20q: something was written", text)
	}
}

// on is a PutOn of these devices.
func on(devs ...int) func(*Store, string) (string, api.Errno) {
	return func(s *Store, text string) (string, api.Errno) { return s.PutOn(text, devs) }
}

// told is all that devices have, and what waits.
func told(d *dev.Devs) string {
	all := fmt.Sprint(d.Waits())
	for side := range 2 {
		for at := range d.Size(side) {
			s, e := d.Read(api.Loc{Dev: side, At: at})
			all += fmt.Sprintf(" %q %d", s, e)
		}
	}
	return all
}

func TestOpenRefuses(t *testing.T) { // P18.1
	d := dev.New(8, 6)
	lost := dev.New(8, 6)
	lost.Lose(api.Fast)
	for i, c := range []struct {
		d    *dev.Devs
		p    api.Policy
		used []api.Loc
		txg  int
		want api.Errno
	}{
		{d, api.Policy{}, nil, 0, api.OK},
		{d, api.Policy{MetaFast: true, Mirror: true, Small: 256, Arc: 64, Second: 508}, nil, 1 << 40, api.OK},
		{d, api.Policy{}, []api.Loc{slow(0), slow(7), fast(0), fast(5), fast(5)}, 1, api.OK},
		{lost, api.Policy{}, []api.Loc{fast(5)}, 1, api.OK}, // a sector still
		{&dev.Devs{}, api.Policy{}, nil, 0, api.OK},
		{nil, api.Policy{}, nil, 0, api.ErrArg},
		{nil, api.Policy{Arc: -1}, []api.Loc{slow(9)}, -1, api.ErrArg},
		{d, api.Policy{Small: -1}, nil, 0, api.ErrArg},
		{d, api.Policy{Small: 257}, nil, 0, api.ErrArg},
		{d, api.Policy{Arc: -1}, nil, 0, api.ErrArg},
		{d, api.Policy{Arc: 65}, nil, 0, api.ErrArg},
		{d, api.Policy{Second: -1}, nil, 0, api.ErrArg},
		{d, api.Policy{Second: 509}, nil, 0, api.ErrArg},
		{d, api.Policy{}, nil, -1, api.ErrArg},
		{d, api.Policy{}, nil, math.MinInt, api.ErrArg},
		{d, api.Policy{}, nil, 1<<40 + 1, api.ErrArg},
		{d, api.Policy{}, nil, math.MaxInt, api.ErrArg},
		{d, api.Policy{}, []api.Loc{slow(8)}, 0, api.ErrArg},
		{d, api.Policy{}, []api.Loc{fast(6)}, 0, api.ErrArg},
		{d, api.Policy{}, []api.Loc{slow(-1)}, 0, api.ErrArg},
		{d, api.Policy{}, []api.Loc{slow(4), {Dev: 2, At: 4}}, 0, api.ErrArg},
		{d, api.Policy{}, []api.Loc{{Dev: -1, At: 4}, slow(4)}, 0, api.ErrArg},
		{d, api.Policy{}, []api.Loc{slow(math.MaxInt)}, 0, api.ErrArg},
		{d, api.Policy{}, []api.Loc{fast(math.MinInt)}, 0, api.ErrArg},
		{&dev.Devs{}, api.Policy{}, []api.Loc{slow(0)}, 0, api.ErrArg},
	} {
		s, e := Open(c.d, c.p, c.used, c.txg)
		if e != c.want || (s != nil) != (e == api.OK) {
			t.Errorf("%d: %v, %d", i, s, e)
		}
		if s.Devs() != c.d && e == api.OK || s.Devs() != nil && e != api.OK {
			t.Errorf("%d: other devices", i)
		}
	}
}

func TestNothing(t *testing.T) { // P18.1
	for i, s := range []*Store{nil, {}} {
		for j, do := range []func(*Store, string) (string, api.Errno){(*Store).Put, (*Store).PutData, (*Store).Get, on(api.Slow), on()} {
			for _, text := range []string{"", "text", strings.Repeat("x", 961)} {
				if ref, e := do(s, text); ref != "" || e != api.ErrArg {
					t.Errorf("%d, %d: %q, %d", i, j, ref, e)
				}
			}
		}
		if s.Settle(nil, 0) != api.ErrArg || s.Settle([]api.Loc{slow(0)}, -1) != api.ErrArg || s.Devs() != nil {
			t.Errorf("%d: is settled", i)
		}
		free(t, s, 0, 0)
		hits(t, s, 0, 0, 0)
	}
}

func TestExample(t *testing.T) { // P18.3
	s := open(t, dev.New(8, 8), api.Policy{}, nil, 1)
	ref, e := s.Put("text")
	if e != api.OK {
		t.Errorf("%d", e)
	}
	get(t, s, ref, "text", api.OK)
}

// P18.1: which sectors may be taken.
func TestFree(t *testing.T) {
	for i, c := range []struct {
		sizes, want [2]int
		second      int
		used        []api.Loc
	}{
		{[2]int{8, 12}, [2]int{4, 8}, 0, nil},
		{[2]int{512, 512}, [2]int{508, 508}, 0, nil},
		{[2]int{4, 4}, [2]int{0, 0}, 0, nil},
		{[2]int{1, 3}, [2]int{0, 0}, 0, []api.Loc{slow(0), fast(2)}},
		{[2]int{5, 4}, [2]int{1, 0}, 0, nil},
		{[2]int{8, 12}, [2]int{4, 8}, 1, nil}, // too few for a second cache
		{[2]int{8, 12}, [2]int{4, 6}, 2, nil},
		{[2]int{8, 12}, [2]int{4, 1}, 7, nil},
		{[2]int{8, 12}, [2]int{4, 0}, 8, nil},
		{[2]int{8, 12}, [2]int{4, 8}, 9, nil}, // more than there are behind the ring
		{[2]int{8, 12}, [2]int{4, 8}, 12, nil},
		{[2]int{8, 12}, [2]int{4, 8}, 508, nil},
		{[2]int{8, 5}, [2]int{4, 1}, 2, nil},
		{[2]int{8, 2}, [2]int{4, 0}, 2, nil},
		{[2]int{8, 512}, [2]int{4, 0}, 508, nil},
		{[2]int{8, 12}, [2]int{4, 8}, 0, []api.Loc{slow(0), slow(3), fast(0), fast(3)}}, // the ring's
		{[2]int{8, 12}, [2]int{3, 7}, 0, []api.Loc{slow(4), fast(4)}},
		{[2]int{8, 12}, [2]int{3, 7}, 0, []api.Loc{slow(7), fast(11)}},
		{[2]int{8, 12}, [2]int{2, 8}, 0, []api.Loc{slow(5), slow(7), slow(5)}},
		{[2]int{8, 12}, [2]int{0, 8}, 0, []api.Loc{slow(5), slow(7), slow(6), slow(4)}},
		{[2]int{8, 12}, [2]int{4, 2}, 4, []api.Loc{fast(4), fast(7), fast(8), fast(11)}}, // two of the region
	} {
		d := dev.New(c.sizes[0], c.sizes[1])
		used := slices.Clone(c.used)
		s := open(t, d, api.Policy{Second: c.second}, c.used, 0)
		free(t, s, c.want[0], c.want[1])
		if !slices.Equal(c.used, used) {
			t.Errorf("%d: used was changed", i)
		}
		other := open(t, d, api.Policy{Second: c.second}, nil, 0)
		if e := other.Settle(c.used, 1); e != api.OK {
			t.Errorf("%d: Settle: %d", i, e)
		}
		free(t, other, c.want[0], c.want[1])
		for _, side := range []int{api.Slow, api.Fast} {
			lost := d.Copy()
			lost.Lose(side)
			want := c.want
			want[side] = 0
			free(t, open(t, lost, api.Policy{Second: c.second}, c.used, 0), want[0], want[1])
		}
	}
}

// R5: what is handed in is not kept.
func TestUsedIsNotKept(t *testing.T) {
	l := []api.Loc{slow(4), slow(5)}
	s := open(t, dev.New(8, 5), api.Policy{}, l, 0)
	l[0] = slow(7)
	put(t, s, (*Store).Put, "a", 0, slow(6))
	s.Settle(l, 0)
	l[0] = slow(4)
	put(t, s, (*Store).Put, "b", 0, slow(4))
}

// P18.1, P18.2: a device may be lost at any time.
func TestLost(t *testing.T) {
	d := dev.New(8, 8)
	s := open(t, d, api.Policy{MetaFast: true, Mirror: true, Small: 9}, nil, 0)
	both := put(t, s, (*Store).Put, "a", 0, fast(4), slow(4))
	one := put(t, s, (*Store).PutData, "b", 0, fast(5))
	d.Lose(api.Fast)
	free(t, s, 3, 0)
	get(t, s, both, "a", api.OK)
	get(t, s, one, "", api.ErrLost)
	put(t, s, (*Store).Put, "c", 0, slow(5))
	put(t, s, (*Store).PutData, "d", 0, slow(6))
	refuse(t, s, on(api.Fast), "e", api.ErrFull)
	refuse(t, s, on(api.Slow, api.Fast), "e", api.ErrFull)
	if s.Settle([]api.Loc{fast(4), slow(4)}, 1) != api.OK {
		t.Error("Settle")
	}
	free(t, s, 3, 0)
	d.Lose(api.Slow)
	free(t, s, 0, 0)
	refuse(t, s, (*Store).Put, "c", api.ErrFull)
	refuse(t, s, on(api.Slow), "c", api.ErrFull)
	get(t, s, both, "", api.ErrLost)
	hits(t, s, 0, 0, 1)
}

func TestSettle(t *testing.T) { // P18.1
	s := open(t, dev.New(8, 8), api.Policy{Second: 3}, []api.Loc{slow(4)}, 3)
	put(t, s, (*Store).Put, "a", 3, slow(5))
	put(t, s, on(api.Fast), "b", 3, fast(4))
	for i, c := range []struct {
		used []api.Loc
		txg  int
	}{
		{nil, -1}, {nil, 1<<40 + 1}, {nil, math.MinInt}, {nil, math.MaxInt},
		{[]api.Loc{slow(8)}, 4}, {[]api.Loc{slow(4), fast(8)}, 4}, {[]api.Loc{slow(-1), slow(4)}, 4}, {[]api.Loc{{Dev: 2}}, 4}, {[]api.Loc{{Dev: -1}}, 4},
	} {
		if e := s.Settle(c.used, c.txg); e != api.ErrArg {
			t.Errorf("%d: %d", i, e)
		}
		free(t, s, 2, 0)
	}
	put(t, s, (*Store).Put, "c", 3, slow(6)) // txg is what it was
	if e := s.Settle([]api.Loc{slow(6), slow(4), slow(6)}, 1<<40); e != api.OK {
		t.Errorf("%d", e)
	}
	free(t, s, 2, 1)
	put(t, s, (*Store).Put, "d", 1<<40, slow(5))
	put(t, s, (*Store).Put, "e", 1<<40, slow(7))
	if e := s.Settle(nil, 0); e != api.OK { // less than it was
		t.Errorf("%d", e)
	}
	free(t, s, 4, 1)
	put(t, s, (*Store).Put, "f", 0, slow(4))
	put(t, s, on(api.Fast), "g", 0, fast(4))
}

func TestPut(t *testing.T) { // P18.2
	d := dev.New(9, 9)
	d.Write(slow(5), "waits")
	s := open(t, d, api.Policy{MetaFast: true, Mirror: true, Small: 3}, []api.Loc{slow(4), fast(5)}, 7)
	long := strings.Repeat("x", 960)
	put(t, s, (*Store).Put, long, 7, fast(4), slow(5))
	put(t, s, (*Store).PutData, "abc", 7, fast(6))
	put(t, s, (*Store).PutData, "abcd", 7, slow(6))
	put(t, s, (*Store).Put, "", 7, fast(7), slow(7))
	if w := d.Waits(); !slices.Equal(w, []api.Loc{slow(5), fast(4), slow(5), fast(6), slow(6), fast(7), slow(7)}) {
		t.Errorf("%v wait", w)
	}
	for _, do := range []func(*Store, string) (string, api.Errno){(*Store).Put, (*Store).PutData, on(api.Slow), on(api.Fast, api.Slow)} {
		refuse(t, s, do, long+"x", api.ErrArg)
		refuse(t, s, do, long+long, api.ErrArg)
	}
	put(t, s, (*Store).PutData, "abcd", 7, slow(8)) // the same again is another block
	put(t, s, (*Store).Put, "meta", 7, fast(8))     // with no room for a mirror
	free(t, s, 0, 0)
	for _, do := range []func(*Store, string) (string, api.Errno){(*Store).Put, (*Store).PutData, on(api.Slow), on(api.Fast), on(api.Slow, api.Fast)} {
		refuse(t, s, do, "x", api.ErrFull)
		refuse(t, s, do, "", api.ErrFull)
		refuse(t, s, do, long+"x", api.ErrArg) // is told first
	}
}

func TestPutWhereThereIsRoom(t *testing.T) { // P18.2
	s := open(t, dev.New(6, 5), api.Policy{MetaFast: true, Mirror: true, Small: 3}, nil, 0)
	put(t, s, (*Store).PutData, "abc", 0, fast(4))
	put(t, s, (*Store).Put, "meta", 0, slow(4)) // there is no room on Fast
	put(t, s, (*Store).PutData, "abc", 0, slow(5))
	refuse(t, s, (*Store).Put, "meta", api.ErrFull)

	s = open(t, dev.New(5, 7), api.Policy{MetaFast: true, Small: 3}, nil, 0)
	put(t, s, (*Store).PutData, "abcd", 0, slow(4))
	refuse(t, s, (*Store).PutData, "abcd", api.ErrFull) // it does not go to Fast
	put(t, s, (*Store).Put, "meta", 0, fast(4))
	put(t, s, (*Store).PutData, "abc", 0, fast(5))
	free(t, s, 0, 1)
}

func TestPutOn(t *testing.T) { // P18.2
	s := open(t, dev.New(8, 8), api.Policy{MetaFast: true, Mirror: true, Small: 256}, []api.Loc{fast(4)}, 2)
	for _, devs := range [][]int{nil, {}, {2}, {-1}, {math.MaxInt}, {math.MinInt}, {0, 0}, {1, 1}, {2, 2}, {0, 2}, {-1, 1}, {1, 2}, {0, 1, 0}, {0, 1, 2}, {1, 0, 1, 0}} {
		refuse(t, s, on(devs...), "x", api.ErrArg)
	}
	put(t, s, on(api.Slow), "a", 2, slow(4))
	put(t, s, on(api.Fast), "b", 2, fast(5))
	put(t, s, on(api.Slow, api.Fast), "c", 2, slow(5), fast(6))
	put(t, s, on(api.Fast, api.Slow), strings.Repeat("x", 960), 2, fast(7), slow(6))
	free(t, s, 1, 0)
	refuse(t, s, on(api.Fast), "d", api.ErrFull)
	refuse(t, s, on(api.Fast, api.Slow), "d", api.ErrFull)
	refuse(t, s, on(api.Slow, api.Fast), "d", api.ErrFull)
	refuse(t, s, on(api.Fast, api.Fast), "d", api.ErrArg)
	put(t, s, on(api.Slow), "e", 2, slow(7)) // none was taken by those
	devs := []int{api.Fast, api.Slow}
	if s.PutOn("x", devs); !slices.Equal(devs, []int{api.Fast, api.Slow}) {
		t.Errorf("devs were changed: %v", devs)
	}
}

func TestGetRefuses(t *testing.T) { // P18.3
	for _, c := range []struct {
		p          api.Policy
		kept, read int
	}{{api.Policy{}, 0, 2}, {api.Policy{Arc: 2, Second: 4}, 1, 1}} {
		s := open(t, dev.New(8, 16), c.p, nil, 1)
		ref := put(t, s, on(api.Slow, api.Fast), "text", 1, slow(4), fast(4))
		bad := []string{"", "junk", "text", ref + "x", ref[1:], ref[:46], "\x00" + ref[1:], "\x03" + ref[1:], ref[:1] + "\x02" + ref[2:], ref[:4] + "\x00" + ref[5:], strings.Repeat("x", 2000)}
		for range 2 {
			for _, x := range bad {
				get(t, s, x, "", api.ErrForm)
			}
			get(t, s, ref, "text", api.OK)
		}
		hits(t, s, c.kept, 0, c.read)
	}
}

func TestGetLost(t *testing.T) { // P18.3
	d := dev.New(8, 16)
	s := open(t, d, api.Policy{Arc: 1, Second: 4}, nil, 1)
	ref := put(t, s, on(api.Slow, api.Fast), "text", 1, slow(4), fast(4))
	d.Spoil(slow(4), "harm")
	get(t, open(t, d, api.Policy{}, nil, 1), ref, "text", api.OK) // the other copy
	d.Spoil(fast(4), "texT")
	for range 2 {
		get(t, s, ref, "", api.ErrLost)
	}
	hits(t, s, 0, 0, 0)
	d.Spoil(fast(4), "text") // nothing was kept of what was lost
	get(t, s, ref, "text", api.OK)
	hits(t, s, 0, 0, 1)
	d.Spoil(fast(4), "harm")
	get(t, s, ref, "text", api.OK)
	hits(t, s, 1, 0, 1)
	nowhere, _ := ptr.Encode(api.Ptr{Locs: []api.Loc{slow(511)}, Sum: sum.Of("")})
	get(t, s, nowhere, "", api.ErrLost)
	get(t, s, ref, "text", api.OK) // what can't be got makes nothing leave
	hits(t, s, 2, 0, 1)
}

// P18.3: from memory, from the second cache, from its own sectors.
func TestGetGoesOn(t *testing.T) {
	d := dev.New(16, 16)
	s := open(t, d, api.Policy{Arc: 1, Second: 4}, nil, 1)
	var refs []string
	for i, text := range []string{"a", "", "c"} {
		refs = append(refs, put(t, s, (*Store).Put, text, 1, slow(4+i)))
	}
	hits(t, s, 0, 0, 0)
	get(t, s, refs[0], "a", api.OK)
	get(t, s, refs[0], "a", api.OK)
	hits(t, s, 1, 0, 1) // what is put is not kept, what is got is
	if x, _ := d.Read(fast(13)); x != "" {
		t.Errorf("fed: %q", x)
	}
	get(t, s, refs[1], "", api.OK) // the first one leaves
	hits(t, s, 1, 0, 2)
	if x, _ := d.Read(fast(13)); x != "a" {
		t.Errorf("not fed: %q", x)
	}
	d.Spoil(slow(4), "harm")
	get(t, s, refs[0], "a", api.OK)
	hits(t, s, 1, 1, 2)
	get(t, s, refs[0], "a", api.OK) // and is kept again
	hits(t, s, 2, 1, 2)
	get(t, s, refs[2], "c", api.OK)
	d.Spoil(slow(5), "harm")
	get(t, s, refs[1], "", api.OK)
	hits(t, s, 2, 2, 3)
	d.Flush()
	again := open(t, d, api.Policy{Arc: 1, Second: 4}, nil, 1)
	get(t, again, refs[0], "a", api.OK) // the second cache is there again
	hits(t, again, 0, 1, 0)
	d.Spoil(fast(13), "harm")
	get(t, again, refs[1], "", api.OK)
	get(t, again, refs[2], "c", api.OK)
	hits(t, again, 0, 3, 0)
	plain := open(t, d, api.Policy{}, nil, 1)
	get(t, plain, refs[0], "", api.ErrLost)
	get(t, plain, refs[1], "", api.ErrLost)
	get(t, plain, refs[2], "c", api.OK)
	hits(t, plain, 0, 0, 1)
}

// P18.3: the second cache is fed with what leaves memory alone, so never where
// Arc is 0; but it is asked.
func TestSecondWithoutMemory(t *testing.T) {
	d := dev.New(16, 16)
	s := open(t, d, api.Policy{Second: 4}, nil, 1)
	ref := put(t, s, (*Store).Put, "a", 1, slow(4))
	other := put(t, s, (*Store).Put, "b", 1, slow(5))
	was := told(d)
	for range 3 {
		get(t, s, ref, "a", api.OK)
		get(t, s, other, "b", api.OK)
	}
	hits(t, s, 0, 0, 6)
	if told(d) != was {
		t.Error("fed")
	}
	second.Open(d, 12, 4).Feed(ref, "a")
	d.Flush()
	d.Spoil(slow(4), "harm")
	s = open(t, d, api.Policy{Second: 4}, nil, 1)
	get(t, s, ref, "a", api.OK)
	get(t, s, other, "b", api.OK)
	hits(t, s, 0, 1, 1)
}

// P18.4, P6: a log that was spoilt may tell another text under a ref, and its
// right digest; what a ref's own digest is not of is not told.
func TestSecondTellsAnotherText(t *testing.T) {
	for i, text := range []string{"b", "", "ab"} {
		d := dev.New(16, 16)
		s := open(t, d, api.Policy{Second: 4}, nil, 1)
		ref := put(t, s, (*Store).Put, "a", 1, slow(4))
		other := put(t, s, (*Store).Put, "b", 1, slow(5))
		cache := second.Open(d, 12, 4)
		cache.Feed(ref, text)
		cache.Feed(other, "b")
		d.Flush()
		s = open(t, d, api.Policy{Second: 4}, nil, 1)
		get(t, s, ref, "a", api.OK)
		hits(t, s, 0, 0, 1)
		get(t, s, other, "b", api.OK)
		hits(t, s, 0, 1, 1)
		d.Spoil(slow(4), "harm")
		get(t, s, ref, "", api.ErrLost)
		if x, is := second.Open(d, 12, 4).Find(ref); !is || x != text {
			t.Errorf("%d: %q", i, x)
		}
	}
}

// P18.3: memory holds as many as Arc says, and no Settle makes it forget any.
func TestMemory(t *testing.T) {
	for _, size := range []int{1, 2, 5, 64} {
		d := dev.New(80, 8)
		s := open(t, d, api.Policy{Arc: size}, nil, 1)
		var refs []string
		for i := range size + 1 {
			refs = append(refs, put(t, s, (*Store).Put, fmt.Sprint(i), 1, slow(4+i)))
		}
		for i, ref := range refs[:size] {
			get(t, s, ref, fmt.Sprint(i), api.OK)
			d.Spoil(slow(4+i), "harm")
		}
		s.Settle(nil, 2)
		for i, ref := range refs[:size] {
			get(t, s, ref, fmt.Sprint(i), api.OK)
		}
		hits(t, s, size, 0, size)
		get(t, s, refs[size], fmt.Sprint(size), api.OK)
		get(t, s, refs[0], "", api.ErrLost) // the oldest one has left
		hits(t, s, size, 0, size+1)
		if len(s.blocks) > size {
			t.Errorf("%d are kept", len(s.blocks))
		}
	}
}

// plain is a store by the document's words, over caches of the layers below.
type plain struct {
	d      *dev.Devs
	p      api.Policy
	txg    int
	used   map[api.Loc]bool
	memory *arc.Arc
	texts  map[string]string
	cache  *second.Second
	hits   [3]int
}

func openPlain(d *dev.Devs, p api.Policy, used []api.Loc, txg int) *plain {
	m := &plain{d: d, p: p, memory: arc.New(p.Arc), texts: map[string]string{}}
	if p.Second >= 2 && d.Size(api.Fast)-4 >= p.Second {
		m.cache = second.Open(d, d.Size(api.Fast)-p.Second, p.Second)
	}
	m.settle(used, txg)
	return m
}

func (m *plain) settle(used []api.Loc, txg int) {
	m.txg, m.used = txg, map[api.Loc]bool{}
	for _, l := range used {
		m.used[l] = true
	}
}

// sectors are those that may be taken.
func (m *plain) sectors(side int) []int {
	var l []int
	end := m.d.Size(side)
	if side == api.Fast && m.cache != nil {
		end -= m.p.Second
	}
	for at := 4; at < end; at++ {
		if !m.used[api.Loc{Dev: side, At: at}] && !m.d.Lost(side) {
			l = append(l, at)
		}
	}
	return l
}

func (m *plain) put(kind int, text string) (string, api.Errno) {
	devs, e := class.Choose(m.p, kind, len(text), []int{len(m.sectors(0)), len(m.sectors(1))})
	if e != api.OK {
		return "", e
	}
	return m.putOn(text, devs)
}

func (m *plain) putOn(text string, devs []int) (string, api.Errno) {
	switch fmt.Sprint(devs) {
	case "[0]", "[1]", "[0 1]", "[1 0]":
	default:
		return "", api.ErrArg
	}
	if len(text) > 960 {
		return "", api.ErrArg
	}
	p := api.Ptr{Len: len(text), Birth: m.txg, Sum: sum.Of(text)}
	for _, side := range devs {
		l := m.sectors(side)
		if len(l) == 0 {
			return "", api.ErrFull
		}
		p.Locs = append(p.Locs, api.Loc{Dev: side, At: l[0]})
	}
	for _, l := range p.Locs {
		m.d.Write(l, text)
		m.used[l] = true
	}
	return ptr.Encode(p)
}

func (m *plain) get(ref string) (string, api.Errno) {
	p, e := ptr.Decode(ref)
	if e != api.OK {
		return "", api.ErrForm
	}
	text, is := m.texts[ref]
	from := 0
	if !is {
		from = 1
		text, is = m.cache.Find(ref)
	}
	for i := 0; i < len(p.Locs) && !is; i++ {
		from = 2
		text, e = m.d.Read(p.Locs[i])
		is = e == api.OK && len(text) == p.Len && sum.Of(text) == p.Sum
	}
	if !is {
		return "", api.ErrLost
	}
	m.hits[from]++
	if m.p.Arc > 0 {
		m.texts[ref] = text
		if _, left := m.memory.Ask(ref); left != "" {
			m.cache.Feed(left, m.texts[left])
			delete(m.texts, left)
		}
	}
	return text, api.OK
}

func anyPolicy(r *rand.Rand) api.Policy {
	return api.Policy{MetaFast: r.Intn(2) == 0, Mirror: r.Intn(2) == 0, Small: r.Intn(2) * r.Intn(4), Arc: r.Intn(2) * (1 + r.Intn(6)), Second: r.Intn(2) * r.Intn(20)}
}

func anyUsed(r *rand.Rand, d *dev.Devs) []api.Loc {
	var l []api.Loc
	for range r.Intn(12) {
		side := r.Intn(2)
		l = append(l, api.Loc{Dev: side, At: r.Intn(d.Size(side))})
	}
	return l
}

func anyText(r *rand.Rand) string {
	if r.Intn(20) == 0 {
		return strings.Repeat("x", 955+r.Intn(10))
	}
	return strings.Repeat(fmt.Sprint(r.Intn(50)), r.Intn(4))
}

// crash lets both devices crash alike.
func crash(r *rand.Rand, devs ...*dev.Devs) {
	keep := make([]bool, r.Intn(8))
	for i := range keep {
		keep[i] = r.Intn(2) == 0
	}
	for _, d := range devs {
		d.Crash(keep)
	}
}

// P18.1, P18.2, P18.3, R6: whatever is done, the store does, and tells, what the
// plain one does.
func TestAgainstThePlainOne(t *testing.T) {
	r := rand.New(rand.NewSource(18))
	for round := range 200 {
		d := dev.New(1+r.Intn(30), 1+r.Intn(30))
		twin := d.Copy()
		p, used, txg := anyPolicy(r), anyUsed(r, d), r.Intn(100)
		s, m := open(t, d, p, used, txg), openPlain(twin, p, used, txg)
		refs := []string{"", "junk"}
		for step := range 200 {
			var got, want string
			var e, wantE api.Errno
			switch x := r.Intn(100); {
			case x < 10:
				text := anyText(r)
				got, e = s.Put(text)
				want, wantE = m.put(api.Meta, text)
			case x < 20:
				text := anyText(r)
				got, e = s.PutData(text)
				want, wantE = m.put(api.Data, text)
			case x < 26:
				text, devs := anyText(r), [][]int{{0}, {1}, {0, 1}, {1, 0}, {r.Intn(4) - 1, r.Intn(4) - 1}, nil}[r.Intn(6)]
				got, e = s.PutOn(text, devs)
				want, wantE = m.putOn(text, devs)
			case x < 84:
				ref := refs[max(0, len(refs)-1-r.Intn(10))]
				got, e = s.Get(ref)
				want, wantE = m.get(ref)
			case x < 90:
				used, txg := anyUsed(r, d), txg+step
				e = s.Settle(used, txg)
				m.settle(used, txg)
			case x < 93:
				l := api.Loc{Dev: r.Intn(2), At: r.Intn(30)}
				d.Spoil(l, "harm")
				twin.Spoil(l, "harm")
			case x < 95:
				crash(r, d, twin)
			case x < 97:
				used := anyUsed(r, d)
				s, m = open(t, d, p, used, txg+step), openPlain(twin, p, used, txg+step)
			case r.Intn(20) == 0:
				side := r.Intn(2)
				d.Lose(side)
				twin.Lose(side)
			}
			if got != want || e != wantE {
				t.Fatalf("%d, %d: %.60q, %d, want %.60q, %d", round, step, got, e, want, wantE)
			}
			if _, e := ptr.Decode(got); e == api.OK {
				refs = append(refs, got)
			}
			free(t, s, len(m.sectors(0)), len(m.sectors(1)))
			hits(t, s, m.hits[0], m.hits[1], m.hits[2])
			if told(d) != told(twin) {
				t.Fatalf("%d, %d: other sectors", round, step)
			}
		}
	}
}

// P18.4: whatever caches there are, what is got is what was put, also behind
// crashes, harm and losses; without these it is always got.
func TestCachesChangeNothing(t *testing.T) {
	r := rand.New(rand.NewSource(184))
	for round := range 150 {
		d := dev.New(60, 60)
		p := anyPolicy(r)
		s := open(t, d, p, nil, 1)
		var refs, texts []string
		sure := 0 // from which place on none may be lost
		for step := range 200 {
			x := r.Intn(100)
			if round%2 == 0 && x >= 97 {
				sure = math.MaxInt
			}
			switch {
			case x < 25:
				text := fmt.Sprint(r.Intn(40))
				do := []func(*Store, string) (string, api.Errno){(*Store).Put, (*Store).PutData, on(0), on(1)}[r.Intn(4)]
				if ref, e := do(s, text); e == api.OK {
					refs, texts = append(refs, ref), append(texts, text)
				}
			case x < 27:
				s.Settle(nil, step+2)
				sure = max(sure, len(refs)) // what is put from here on may be put over these
			case x == 97 && round%2 == 0:
				d.Spoil(api.Loc{Dev: r.Intn(2), At: r.Intn(60)}, fmt.Sprint(r.Intn(40)))
			case x == 98 && round%2 == 0:
				crash(r, d)
				s = open(t, d, p, nil, step+2)
			case x == 99 && round%20 == 0:
				d.Lose(r.Intn(2))
			}
			for i, ref := range refs {
				if r.Intn(4) > 0 {
					continue
				}
				x, e := s.Get(ref)
				if e == api.OK && x != texts[i] || e != api.OK && (x != "" || e != api.ErrLost || i >= sure) {
					t.Fatalf("%d, %d: %q, %d, want %q", round, step, x, e, texts[i])
				}
			}
		}
	}
}
