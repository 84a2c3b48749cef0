package second

import (
	"fmt"
	"math"
	"math/rand"
	"slices"
	"sort"
	"strings"
	"testing"

	"permafrost/api"
	"permafrost/clog"
	"permafrost/dev"
	"permafrost/sum"
)

func at(n int) api.Loc { return api.Loc{Dev: api.Fast, At: n} }

// has is what sector n of the fast device has.
func has(d *dev.Devs, n int) string {
	s, _ := d.Read(at(n))
	return s
}

// logAt is the block that sector n tells.
func logAt(t *testing.T, d *dev.Devs, n int) clog.Block {
	t.Helper()
	b, e := clog.Decode(has(d, n))
	if e != api.OK {
		t.Errorf("log at %d: %d", n, e)
	}
	return b
}

// entry is what is told of load, if it was fed under key to sector n.
func entry(key string, load string, n int) clog.Entry {
	return clog.Entry{Key: key, Sum: sum.Of(load), Len: len(load), At: n}
}

// spoil makes sector n tell that block.
func spoil(d *dev.Devs, n int, seq int, l ...clog.Entry) {
	s, e := clog.Encode(clog.Block{Seq: seq, Entries: l})
	if e != api.OK {
		panic(e)
	}
	d.Spoil(at(n), s)
}

// fill feeds each key of one letter, with a load of it.
func fill(s *Second, keys string) {
	for _, c := range keys {
		s.Feed(string(c), "load "+string(c))
	}
}

// keys are those of the entries, in order.
func keys(s *Second) string {
	all := ""
	for _, x := range s.Entries() {
		all += x.Key
	}
	return all
}

// P14.1
func TestOpen(t *testing.T) {
	for i, c := range []struct {
		from, n int
		is      bool
	}{
		{0, 2, true}, {0, 30, true}, {28, 2, true}, {5, 25, true},
		{-1, 2, false}, {-1, 31, false}, {math.MinInt, 2, false}, {0, 1, false}, {0, 0, false}, {0, -1, false}, {0, math.MinInt, false},
		{0, 31, false}, {29, 2, false}, {30, 2, false}, {5, 26, false}, {math.MaxInt, 2, false}, {math.MaxInt, math.MaxInt, false}, {2, math.MaxInt, false},
	} {
		if s := Open(dev.New(512, 30), c.from, c.n); (s != nil) != c.is {
			t.Errorf("%d: %v", i, s)
		}
		if Open(nil, c.from, c.n) != nil || Open(&dev.Devs{}, c.from, c.n) != nil {
			t.Errorf("%d: a cache of no devices", i)
		}
	}
	// The slow device's size does not matter.
	if Open(dev.New(1, 30), 0, 30) == nil || Open(dev.New(30, 1), 0, 2) != nil {
		t.Error("the region is not the fast device's")
	}
}

// P14.1
func TestRoom(t *testing.T) {
	d := dev.New(1, 512)
	for n, want := range map[int]int{2: 1, 3: 2, 7: 6, 8: 7, 9: 7, 10: 8, 15: 13, 16: 14, 17: 14, 18: 15, 64: 56, 511: 447, 512: 448} {
		s := Open(d, 0, n)
		if s.Room() != want || len(s.Entries()) != 0 {
			t.Errorf("%d sectors: %d places", n, s.Room())
		}
	}
}

// P14.1, P14.2, P14.3
func TestNothing(t *testing.T) {
	for i, s := range []*Second{nil, {}} {
		for _, key := range []string{"", "k", strings.Repeat("k", 61)} {
			if s.Feed(key, "load") {
				t.Errorf("%d: Feed(%q)", i, key)
			}
			if load, is := s.Find(key); load != "" || is {
				t.Errorf("%d: Find(%q): %q", i, key, load)
			}
		}
		if s.Room() != 0 || len(s.Entries()) != 0 {
			t.Errorf("%d: %d places", i, s.Room())
		}
	}
}

// P14.2: the document's example.
func TestExample(t *testing.T) {
	s := Open(dev.New(1, 2), 0, 2)
	if !s.Feed("k", "a") {
		t.Error("Feed")
	}
	if load, is := s.Find("k"); load != "a" || !is {
		t.Errorf("%q, %v", load, is)
	}
}

// P14.2
func TestFeedWhatMayNotBe(t *testing.T) {
	d := dev.New(1, 16)
	s := Open(d, 0, 16)
	d.Write(at(15), "waits")
	for i, c := range []struct {
		key, load string
	}{{"", "load"}, {strings.Repeat("k", 61), "load"}, {"k", strings.Repeat("l", 961)}, {"", strings.Repeat("l", 961)}} {
		if s.Feed(c.key, c.load) || len(s.Entries()) != 0 {
			t.Errorf("%d: was fed", i)
		}
	}
	if s.Feed("k", "load"); keys(s) != "k" || logAt(t, d, 0).Seq != 2 {
		t.Errorf("%v", s.Entries())
	}
	for i, c := range []struct {
		key, load string
	}{{strings.Repeat("k", 60), strings.Repeat("l", 960)}, {"\x00", ""}, {"empty", ""}} {
		load, is := "", s.Feed(c.key, c.load)
		if is {
			load, is = s.Find(c.key)
		}
		if load != c.load || !is || logAt(t, d, 0).Seq != 4+2*i {
			t.Errorf("%d: %q, %v", i, load, is)
		}
	}
}

// P14.2: with false nothing is done, not even a flush; nor if the key is there.
func TestFeedDoesNothing(t *testing.T) {
	d := dev.New(1, 8)
	s := Open(d, 0, 8)
	s.Feed("k", "load")
	d.Flush()
	d.Write(at(7), "waits")
	was := logAt(t, d, 0)
	if s.Feed("", "load") || s.Feed("l", strings.Repeat("l", 961)) || !s.Feed("k", "other") || !s.Feed("k", "") {
		t.Error("Feed")
	}
	if s.Feed("k", strings.Repeat("l", 961)) { // what may not be fed is told first
		t.Error("too long")
	}
	if now := logAt(t, d, 0); now.Seq != was.Seq || !slices.Equal(now.Entries, was.Entries) || len(d.Waits()) != 1 {
		t.Errorf("%v, %v wait", now, d.Waits())
	}
	if load, is := s.Find("k"); load != "load" || !is {
		t.Errorf("%q, %v", load, is)
	}
	d.Lose(api.Fast)
	if s.Feed("k", "load") || s.Feed("l", "load") || keys(s) != "k" {
		t.Errorf("lost: %v", s.Entries())
	}
	if _, is := s.Find("k"); is || keys(s) != "" {
		t.Errorf("lost: %v", s.Entries())
	}
}

// P14.2: an empty load is not found on a device that is lost, either.
func TestEmptyLoadIsLost(t *testing.T) {
	d := dev.New(1, 8)
	s := Open(d, 0, 8)
	s.Feed("k", "")
	if load, is := s.Find("k"); load != "" || !is {
		t.Errorf("%q, %v", load, is)
	}
	d.Lose(api.Fast)
	if _, is := s.Find("k"); is || len(s.Entries()) != 0 {
		t.Error("found on a device that is lost")
	}
	if Open(d, 0, 8).Room() != 7 || len(Open(d, 0, 8).Entries()) != 0 {
		t.Error("a lost device has entries")
	}
}

// P14.2
func TestFeedGoesRound(t *testing.T) {
	d := dev.New(1, 30)
	s := Open(d, 3, 11) // groups at 3 and 11, of seven places and of two
	fill(s, "abcdefg")
	if keys(s) != "abcdefg" || has(d, 10) != "load g" || has(d, 11) != "" || !slices.Equal(d.Waits(), []api.Loc{at(3)}) {
		t.Fatalf("%q, %v wait", keys(s), d.Waits())
	}
	fill(s, "h")
	if keys(s) != "abcdefgh" || has(d, 12) != "load h" || !slices.Equal(d.Waits(), []api.Loc{at(11)}) {
		t.Fatalf("%q, %v wait", keys(s), d.Waits())
	}
	if b := logAt(t, d, 11); b.Seq != 16 || !slices.Equal(b.Entries, []clog.Entry{entry("h", "load h", 12)}) {
		t.Errorf("%v", b)
	}
	fill(s, "ijk")
	if keys(s) != "jkcdefghi" || has(d, 4) != "load j" || has(d, 5) != "load k" || has(d, 14) != "" {
		t.Errorf("%q", keys(s))
	}
	b := logAt(t, d, 3)
	if b.Seq != 22 || !slices.Equal(b.Entries, s.Entries()[:7]) || b.Entries[1] != entry("k", "load k", 5) {
		t.Errorf("%v", b)
	}
	for _, c := range "abcdefghijk" {
		load, is := s.Find(string(c))
		if is != (c > 'b') || is && load != "load "+string(c) {
			t.Errorf("%c: %q, %v", c, load, is)
		}
	}
	if has(d, 2) != "" || has(d, 14) != "" {
		t.Error("written outside the region")
	}
}

// P14.2: each step is flushed ahead of the next one, so that only the last write waits.
func TestFeedBehindACrash(t *testing.T) {
	d := dev.New(1, 2)
	s := Open(d, 0, 2)
	s.Feed("a", "1")
	d.Flush()
	d.Write(api.Loc{Dev: api.Slow}, "other")
	s.Feed("b", "2")
	if !slices.Equal(d.Waits(), []api.Loc{at(0)}) {
		t.Errorf("%v wait", d.Waits())
	}
	kept := d.Copy()
	kept.Crash([]bool{true})
	if x := Open(kept, 0, 2); keys(x) != "b" || logAt(t, kept, 0).Seq != 4 {
		t.Errorf("%v", x.Entries())
	}
	d.Crash(nil)
	if b := logAt(t, d, 0); b.Seq != 3 || len(b.Entries) != 0 || has(d, 1) != "2" {
		t.Errorf("%v", b)
	}
	if x, _ := d.Read(api.Loc{Dev: api.Slow}); x != "other" {
		t.Errorf("%q", x)
	}
	x := Open(d, 0, 2)
	if keys(x) != "" || !x.Feed("c", "3") || logAt(t, d, 0).Seq != 5 {
		t.Errorf("%v", x.Entries())
	}
}

// P14.1: the number, and the hand.
func TestOpenGoesOn(t *testing.T) {
	for i, c := range []struct {
		seqs []int // of the logs at 1, 9, 17; none if below 0
		next int   // where the next load goes
		seq  int   // by which number
	}{
		{[]int{-1, -1, -1}, 2, 2},
		{[]int{0, -1, -1}, 10, 2},
		{[]int{-1, 0, -1}, 18, 2},
		{[]int{0, 0, -1}, 18, 2}, // of several the last such group
		{[]int{0, 0, 0}, 2, 2},   // behind the last group the first one
		{[]int{5, 4, 3}, 10, 7},
		{[]int{3, 5, 4}, 18, 7},
		{[]int{3, 4, 5}, 2, 7},
		{[]int{5, 5, 1}, 18, 7},
		{[]int{5, -1, 5}, 2, 7},
		{[]int{1<<40 - 2, 1, 1}, 10, 1 << 40},
	} {
		d := dev.New(1, 40)
		for g, seq := range c.seqs {
			if seq >= 0 {
				spoil(d, 1+8*g, seq)
			}
		}
		s := Open(d, 1, 20) // the last group has three places
		s.Feed("k", "load")
		if x := s.Entries(); len(x) != 1 || x[0] != entry("k", "load", c.next) {
			t.Errorf("%d: %v", i, x)
		}
		if b := logAt(t, d, c.next-1); b.Seq != c.seq {
			t.Errorf("%d: %v", i, b)
		}
	}
}

// P14.1: a group of one sector has a log's sector, but no places, and is not looked at.
func TestGroupWithoutPlaces(t *testing.T) {
	d := dev.New(1, 17)
	spoil(d, 8, 3)
	spoil(d, 16, 9)
	s := Open(d, 0, 17)
	if s.Room() != 14 || !s.Feed("z", "load") || has(d, 1) != "load" || logAt(t, d, 0).Seq != 5 {
		t.Errorf("%v", s.Entries())
	}
	if logAt(t, d, 16).Seq != 9 {
		t.Error("its sector was written to")
	}
	for _, c := range "abcdefghijklm" {
		s.Feed(string(c), "load")
	}
	if keys(s) != "zabcdefghijklm" || s.Entries()[13].At != 15 {
		t.Errorf("%v", s.Entries())
	}
	s.Feed("n", "load")
	if keys(s) != "nabcdefghijklm" {
		t.Errorf("%q", keys(s))
	}
}

// P14.1
func TestLogsThatAreNotTaken(t *testing.T) {
	good := entry("k", "load", 9)
	for i, c := range []struct {
		log  func(d *dev.Devs)
		want string
	}{
		{func(d *dev.Devs) { spoil(d, 8, 5, good) }, "k"},
		{func(d *dev.Devs) { spoil(d, 8, 5, good, entry("l", "load", 10)) }, "kl"},
		{func(d *dev.Devs) { spoil(d, 8, 5, entry("l", "load", 10), good) }, "kl"}, // by At
		{func(d *dev.Devs) { spoil(d, 8, 5, good, entry("l", "load", 9)) }, "l"},   // of several the last one
		{func(d *dev.Devs) { spoil(d, 8, 5, good, entry("l", "load", 8)) }, ""},    // a log is no place
		{func(d *dev.Devs) { spoil(d, 8, 5, good, entry("l", "load", 7)) }, ""},    // of the group ahead
		{func(d *dev.Devs) { spoil(d, 8, 5, good, entry("l", "load", 11)) }, ""},   // behind the region
		{func(d *dev.Devs) { spoil(d, 8, 5, good, entry("l", "load", 0)) }, ""},
		{func(d *dev.Devs) { spoil(d, 8, 5, good, entry("l", "load", 511)) }, ""},
		{func(d *dev.Devs) { spoil(d, 0, 5, good) }, ""},                                // of the group behind
		{func(d *dev.Devs) { spoil(d, 9, 5, good) }, ""},                                // a place is no log
		{func(d *dev.Devs) { spoil(d, 8, 5, good); d.Spoil(at(8), has(d, 8)[1:]) }, ""}, // not read as a block
		{func(d *dev.Devs) { d.Spoil(at(8), "junk") }, ""},
	} {
		d := dev.New(1, 30)
		spoil(d, 0, 1)
		c.log(d)
		d.Spoil(at(9), "load")
		d.Spoil(at(10), "load")
		s := Open(d, 0, 11)
		if keys(s) != c.want {
			t.Errorf("%d: %v", i, s.Entries())
		}
	}
}

// P14.1: the number of a block that is not taken is none.
func TestNumbersThatAreNotTaken(t *testing.T) {
	d := dev.New(1, 16)
	spoil(d, 0, 4)
	spoil(d, 8, 9, entry("k", "load", 1))
	s := Open(d, 0, 16)
	s.Feed("l", "load")
	if b := logAt(t, d, 8); b.Seq != 6 || !slices.Equal(b.Entries, []clog.Entry{entry("l", "load", 9)}) {
		t.Errorf("%v", b)
	}
}

// P14.3
func TestFindForgets(t *testing.T) {
	for i, harm := range []string{"", "load", "load b", "load aa", "xoad a", strings.Repeat("x", 1024)} {
		d := dev.New(1, 8)
		s := Open(d, 0, 8)
		fill(s, "abc")
		d.Flush()
		log := has(d, 0)
		d.Spoil(at(1), harm)
		for range 2 {
			if load, is := s.Find("a"); load != "" || is || keys(s) != "bc" {
				t.Errorf("%d: %q, %v, %q", i, load, is, keys(s))
			}
		}
		if has(d, 0) != log || len(d.Waits()) != 0 || keys(Open(d, 0, 8)) != "abc" {
			t.Errorf("%d: forgotten on the device", i)
		}
		if !s.Feed("a", "again") || keys(s) != "bca" { // the hand stays where it was
			t.Errorf("%d: %q", i, keys(s))
		}
		if load, is := s.Find("a"); load != "again" || !is {
			t.Errorf("%d: %q, %v", i, load, is)
		}
	}
}

// P14.3: of several entries with one key the one in the first place, till it is forgotten.
func TestFindOfSeveral(t *testing.T) {
	d := dev.New(1, 24)
	spoil(d, 0, 1, entry("k", "three", 3), entry("k", "two", 2))
	spoil(d, 8, 7, entry("k", "nine", 9))
	d.Spoil(at(2), "two")
	d.Spoil(at(9), "nine")
	s := Open(d, 0, 24)
	if !s.Feed("k", "new") || keys(s) != "kkk" {
		t.Errorf("%v", s.Entries())
	}
	d.Spoil(at(3), "three")
	find := func(want string) {
		t.Helper()
		if load, is := s.Find("k"); load != want || is != (want != "") {
			t.Errorf("%q, %v", load, is)
		}
	}
	find("two")
	d.Spoil(at(2), "harm")
	find("")
	find("three")
	d.Spoil(at(3), "harm")
	find("")
	find("nine")
	d.Spoil(at(9), "harm")
	find("")
	find("")
	if !s.Feed("k", "new") || has(d, 17) != "new" {
		t.Errorf("%v", s.Entries())
	}
	find("new")
}

// P14.3: the length counts, too.
func TestFindLooksAtTheLength(t *testing.T) {
	d := dev.New(1, 8)
	wrong := entry("k", "load", 1)
	wrong.Len = 3
	spoil(d, 0, 1, wrong, entry("l", "load", 2))
	d.Spoil(at(1), "load")
	d.Spoil(at(2), "load")
	s := Open(d, 0, 8)
	if load, is := s.Find("k"); load != "" || is || keys(s) != "l" {
		t.Errorf("%q, %v", load, is)
	}
	if load, is := s.Find("l"); load != "load" || !is {
		t.Errorf("%q, %v", load, is)
	}
}

// R5
func TestEntriesAreApart(t *testing.T) {
	s := Open(dev.New(1, 8), 0, 8)
	fill(s, "ab")
	clear(s.Entries())
	if keys(s) != "ab" {
		t.Errorf("%v", s.Entries())
	}
}

// P14.2: no log can tell of a number above 2^40.
func TestNumberHasAnEnd(t *testing.T) {
	for _, seq := range []int{1<<40 - 1, 1 << 40} {
		d := dev.New(1, 8)
		spoil(d, 0, seq, entry("k", "load", 1))
		d.Spoil(at(1), "load")
		s := Open(d, 0, 8)
		if s.Feed("l", "load") || !s.Feed("k", "load") || keys(s) != "k" || logAt(t, d, 0).Seq != seq {
			t.Errorf("%v", s.Entries())
		}
	}
}

// plain is the cache by the document's words: a list of groups, each with a list
// of what its places have.
type plain struct {
	d      *dev.Devs
	groups []plainGroup
	number int
	g, p   int // the hand
}

type plainGroup struct {
	log    int
	places []clog.Entry // without an entry: At -1
}

var none = clog.Entry{At: -1}

func openPlain(d *dev.Devs, from int, n int) *plain {
	m := &plain{d: d}
	for first := from; first < from+n-1; first += 8 {
		g := plainGroup{log: first}
		for sector := first + 1; sector < first+8 && sector < from+n; sector++ {
			g.places = append(g.places, none)
		}
		m.groups = append(m.groups, g)
	}
	for i, g := range m.groups {
		b, e := clog.Decode(has(d, g.log))
		for _, x := range b.Entries {
			if x.At <= g.log || x.At > g.log+len(g.places) {
				e = api.ErrForm
			}
		}
		if e != api.OK {
			continue
		}
		for _, x := range b.Entries {
			g.places[x.At-g.log-1] = x
		}
		if b.Seq >= m.number {
			m.number, m.g = b.Seq, (i+1)%len(m.groups)
		}
	}
	return m
}

func (m *plain) entries() []clog.Entry {
	var l []clog.Entry
	for _, g := range m.groups {
		l = append(l, g.entries()...)
	}
	return l
}

func (g plainGroup) entries() []clog.Entry {
	return slices.DeleteFunc(slices.Clone(g.places), func(x clog.Entry) bool { return x == none })
}

func (m *plain) log() {
	m.number++
	g := m.groups[m.g]
	s, e := clog.Encode(clog.Block{Seq: m.number, Entries: g.entries()})
	if e != api.OK {
		panic(e)
	}
	m.d.Write(at(g.log), s)
}

func (m *plain) feed(key string, load string) bool {
	if len(key) < 1 || len(key) > 60 || len(load) > 960 || m.d.Lost(api.Fast) {
		return false
	}
	if slices.ContainsFunc(m.entries(), func(x clog.Entry) bool { return x.Key == key }) {
		return true
	}
	g := m.groups[m.g]
	sector := g.log + 1 + m.p
	g.places[m.p] = none
	m.log()
	m.d.Flush()
	m.d.Write(at(sector), load)
	m.d.Flush()
	g.places[m.p] = entry(key, load, sector)
	m.log()
	m.p++
	if m.p == len(g.places) {
		m.p, m.g = 0, (m.g+1)%len(m.groups)
	}
	return true
}

func (m *plain) find(key string) (string, bool) {
	for _, g := range m.groups {
		for i, x := range g.places {
			if x == none || x.Key != key {
				continue
			}
			load, e := m.d.Read(at(x.At))
			if e == api.OK && len(load) == x.Len && sum.Of(load) == x.Sum {
				return load, true
			}
			g.places[i] = none
			return "", false
		}
	}
	return "", false
}

// told is all that devices have, and what waits.
func told(d *dev.Devs) string {
	all := []any{d.Waits()}
	for n := range d.Size(api.Fast) {
		all = append(all, has(d, n))
	}
	return fmt.Sprintf("%q", all)
}

// harm spoils a sector of both devices, sometimes by a log that may be.
func harm(r *rand.Rand, size int, devs ...*dev.Devs) {
	n := r.Intn(size)
	s := []string{"", "junk", strings.Repeat("x", 1024), has(devs[0], r.Intn(size)), fmt.Sprint(r.Intn(20))}[r.Intn(5)]
	if r.Intn(2) == 0 {
		var l []clog.Entry
		for range r.Intn(8) {
			l = append(l, entry(fmt.Sprint(r.Intn(20)), fmt.Sprint(r.Intn(20)), min(n+r.Intn(9), 511)))
		}
		s, _ = clog.Encode(clog.Block{Seq: r.Intn(100), Entries: l})
	}
	for _, d := range devs {
		d.Spoil(at(n), s)
	}
}

// crash lets both devices crash alike.
func crash(r *rand.Rand, devs ...*dev.Devs) {
	keep := make([]bool, r.Intn(4))
	for i := range keep {
		keep[i] = r.Intn(2) == 0
	}
	for _, d := range devs {
		d.Crash(keep)
	}
}

// P14.1, P14.2, P14.3, P14.4, R6: whatever is done, the cache does, and tells, what the plain one does.
func TestAgainstThePlainOne(t *testing.T) {
	r := rand.New(rand.NewSource(14))
	for round := range 150 {
		size := 2 + r.Intn(40)
		n := 2 + r.Intn(size-1)
		from := r.Intn(size - n + 1)
		d := dev.New(4, size)
		for range r.Intn(2) * r.Intn(9) {
			harm(r, size, d)
		}
		twin := d.Copy()
		s, m := Open(d, from, n), openPlain(twin, from, n)
		for step := range 120 {
			key := fmt.Sprint(r.Intn(n + 4))
			switch x := r.Intn(40); {
			case x < 18:
				load := strings.Repeat(fmt.Sprint(r.Intn(20)), r.Intn(3))
				if got, want := s.Feed(key, load), m.feed(key, load); got != want {
					t.Fatalf("%d, %d: Feed %v, want %v", round, step, got, want)
				}
			case x < 32:
				got, is := s.Find(key)
				if want, wantIs := m.find(key); got != want || is != wantIs {
					t.Fatalf("%d, %d: Find %q, %v, want %q, %v", round, step, got, is, want, wantIs)
				}
			case x < 34:
				harm(r, size, d, twin)
			case x < 36:
				crash(r, d, twin)
			case x < 38:
				s, m = Open(d, from, n), openPlain(twin, from, n)
			case x < 39:
				d.Write(at(r.Intn(size)), "waits")
				twin = d.Copy()
				m.d = twin
			case r.Intn(10) == 0:
				d.Lose(api.Fast)
				twin.Lose(api.Fast)
			}
			if !slices.Equal(s.Entries(), m.entries()) || told(d) != told(twin) {
				t.Fatalf("%d, %d: %v, want %v", round, step, s.Entries(), m.entries())
			}
			if !sort.SliceIsSorted(s.Entries(), func(i, j int) bool { return s.Entries()[i].At < s.Entries()[j].At }) {
				t.Fatalf("%d, %d: not by At", round, step)
			}
		}
	}
}

// P14.4: without harm what is found is what was fed last, behind any crash, too.
func TestFoundIsFed(t *testing.T) {
	r := rand.New(rand.NewSource(41))
	for round := range 100 {
		d := dev.New(1, 40)
		from, n := r.Intn(10), 2+r.Intn(28)
		s := Open(d, from, n)
		fed := map[string]string{}
		for step := range 200 {
			key := fmt.Sprint(r.Intn(n + 4))
			_, there := s.Find(key)
			if load := fmt.Sprint(step); s.Feed(key, load) && !there {
				fed[key] = load
			}
			switch r.Intn(12) {
			case 0:
				d.Flush()
			case 1:
				crash(r, d)
				s = Open(d, from, n)
			case 2:
				crash(r, d) // the cache goes on, as its places were flushed
			}
			other := fmt.Sprint(r.Intn(n + 4))
			if load, is := s.Find(other); is && load != fed[other] {
				t.Fatalf("%d, %d: %q, want %q", round, step, load, fed[other])
			}
		}
	}
}

// P14.4: whatever sectors have, what is found is as its entry tells.
func TestFoundIsAsTold(t *testing.T) {
	r := rand.New(rand.NewSource(44))
	for range 200 {
		d := dev.New(1, 24)
		s := Open(d, 0, 24)
		for i := range 30 {
			s.Feed(fmt.Sprint(i), fmt.Sprint(i%20))
		}
		for range 6 {
			harm(r, 24, d)
		}
		if r.Intn(2) == 0 {
			s = Open(d, 0, 24)
		}
		for _, x := range s.Entries() {
			load, is := s.Find(x.Key)
			if !is {
				continue
			}
			of := func(y clog.Entry) bool {
				return y.Key == x.Key && y.Len == len(load) && y.Sum == sum.Of(load)
			}
			if !slices.ContainsFunc(s.Entries(), of) {
				t.Fatalf("%q: %q", x.Key, load)
			}
		}
	}
}
