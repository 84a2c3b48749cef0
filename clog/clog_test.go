package clog

import (
	"fmt"
	"math"
	"math/rand"
	"reflect"
	"slices"
	"strings"
	"testing"

	"permafrost/api"
	"permafrost/fixed"
	"permafrost/sum"
)

var digest = sum.Of("digest")

// seal puts the digest behind s.
func seal(s string) string { return s + sum.Of(s) }

// with answers a block of one entry, which change made another one of.
func with(change func(x *Entry)) Block {
	x := Entry{Key: "k", Sum: digest, Len: 1, At: 2}
	change(&x)
	return Block{Seq: 3, Entries: []Entry{{Key: "first", Sum: digest}, x}}
}

// anyBlock is some block that may be.
func anyBlock(r *rand.Rand) Block {
	b := Block{Seq: []int{r.Intn(4), r.Intn(1 << 40), 1 << 40}[r.Intn(3)]}
	for range r.Intn(mostEntries + 1) {
		key := strings.Repeat(string(rune('a'+r.Intn(26))), 1+r.Intn(60))
		b.Entries = append(b.Entries, Entry{Key: key, Sum: sum.Of(key), Len: r.Intn(961), At: []int{r.Intn(8), r.Intn(512)}[r.Intn(2)]})
	}
	return b
}

// P13.1
func TestCheck(t *testing.T) {
	for i, c := range []struct {
		b    Block
		want api.Errno
	}{
		{Block{}, api.OK},
		{Block{Entries: []Entry{}}, api.OK},
		{Block{Seq: 1 << 40}, api.OK},
		{Block{Seq: 1<<40 + 1}, api.ErrArg},
		{Block{Seq: -1}, api.ErrArg},
		{Block{Seq: math.MinInt}, api.ErrArg},
		{Block{Seq: math.MaxInt}, api.ErrArg},
		{Block{Entries: slices.Repeat([]Entry{{Key: "k", Sum: digest}}, 7)}, api.OK},
		{Block{Entries: slices.Repeat([]Entry{{Key: "k", Sum: digest}}, 8)}, api.ErrArg},
		{Block{Entries: []Entry{{}}}, api.ErrArg},
		{with(func(x *Entry) {}), api.OK},
		{with(func(x *Entry) { x.Key = "" }), api.ErrArg},
		{with(func(x *Entry) { x.Key = "\x00" }), api.OK},
		{with(func(x *Entry) { x.Key = strings.Repeat("k", 60) }), api.OK},
		{with(func(x *Entry) { x.Key = strings.Repeat("k", 61) }), api.ErrArg},
		{with(func(x *Entry) { x.Sum = "" }), api.ErrArg},
		{with(func(x *Entry) { x.Sum = digest[1:] }), api.ErrArg},
		{with(func(x *Entry) { x.Sum = digest + "d" }), api.ErrArg},
		{with(func(x *Entry) { x.Len = 0 }), api.OK},
		{with(func(x *Entry) { x.Len = 960 }), api.OK},
		{with(func(x *Entry) { x.Len = 961 }), api.ErrArg},
		{with(func(x *Entry) { x.Len = -1 }), api.ErrArg},
		{with(func(x *Entry) { x.Len = math.MinInt }), api.ErrArg},
		{with(func(x *Entry) { x.Len = math.MaxInt }), api.ErrArg},
		{with(func(x *Entry) { x.At = 0 }), api.OK},
		{with(func(x *Entry) { x.At = 511 }), api.OK},
		{with(func(x *Entry) { x.At = 512 }), api.ErrArg},
		{with(func(x *Entry) { x.At = -1 }), api.ErrArg},
		{with(func(x *Entry) { x.At = math.MinInt }), api.ErrArg},
		{with(func(x *Entry) { x.At = math.MaxInt }), api.ErrArg},
	} {
		if e := Check(c.b); e != c.want {
			t.Errorf("%d: %d, want %d", i, e, c.want)
		}
		// P13.2: Check's error is Encode's, with nothing beside it.
		s, e := Encode(c.b)
		if e != c.want || (s == "") != (c.want != api.OK) {
			t.Errorf("%d: Encode: %q, %d, want %d", i, s, e, c.want)
		}
	}
}

// P13.2
func TestEncode(t *testing.T) {
	for i, c := range []struct {
		b    Block
		want string
	}{
		{Block{}, "PL\x00\x00\x00\x00\x00\x00\x00"},
		{Block{Seq: 258}, "PL\x02\x01\x00\x00\x00\x00\x00"},
		{Block{Seq: 1 << 40}, "PL\x00\x00\x00\x00\x00\x01\x00"},
		{Block{Seq: 1, Entries: []Entry{{Key: "key", Sum: digest, Len: 960, At: 511}}}, "PL\x01\x00\x00\x00\x00\x00\x01\x03key" + digest + "\xc0\x03\xff\x01"},
		{Block{Seq: 1, Entries: []Entry{{Key: "b", Sum: digest, At: 9}, {Key: "a", Sum: digest, Len: 3, At: 9}}}, "PL\x01\x00\x00\x00\x00\x00\x02\x01b" + digest + "\x00\x00\x09\x00\x01a" + digest + "\x03\x00\x09\x00"},
	} {
		s, e := Encode(c.b)
		if s != seal(c.want) || e != api.OK {
			t.Errorf("%d: %q, %d", i, s, e)
		}
		b, e := Decode(s)
		if b.Seq != c.b.Seq || !slices.Equal(b.Entries, c.b.Entries) || e != api.OK {
			t.Errorf("%d: Decode: %v, %d", i, b, e)
		}
	}
	// The document's example: no entries take 41 bytes.
	if s, _ := Encode(Block{}); len(s) != 41 {
		t.Errorf("%d bytes", len(s))
	}
	if s, _ := Encode(Block{Entries: slices.Repeat([]Entry{{Key: strings.Repeat("k", 60), Sum: digest}}, 7)}); len(s) != 720 {
		t.Errorf("%d bytes", len(s))
	}
}

// P13.2
func TestDecode(t *testing.T) {
	empty := "PL\x00\x00\x00\x00\x00\x00\x00"
	head := "PL\x01\x00\x00\x00\x00\x00"
	good := "\x01k" + digest + "\x01\x00\x02\x00"
	for i, c := range []struct {
		s    string
		want api.Errno
	}{
		{"", api.ErrCut},
		{seal(""), api.ErrCut}, // its digest is right, but it is short
		{seal(empty[:8]), api.ErrCut},
		{seal(empty)[:40], api.ErrCut},
		{seal(empty), api.OK},
		{seal(empty)[1:] + "x", api.ErrSum},
		{seal(empty) + "x", api.ErrSum},
		{"x" + seal(empty), api.ErrSum},
		{strings.Repeat("\x00", 1024), api.ErrSum},
		{seal("PX" + empty[2:]), api.ErrForm},
		{seal("XL" + empty[2:]), api.ErrForm},
		{seal("pl" + empty[2:]), api.ErrForm},
		{seal(empty + "x"), api.ErrForm},
		{seal("PL\x00\x00\x00\x00\x00\x01\x00"), api.OK},
		{seal("PL\x01\x00\x00\x00\x00\x01\x00"), api.ErrForm}, // 2^40 + 1
		{seal("PL\xff\xff\xff\xff\xff\xff\x00"), api.ErrForm},
		{seal(head + "\x01"), api.ErrForm}, // the entry is missing
		{seal(head + "\x00" + good), api.ErrForm},
		{seal(head + "\x01" + good), api.OK},
		{seal(head + "\x02" + good), api.ErrForm},
		{seal(head + "\xff" + good), api.ErrForm},
		{seal(head + "\x01" + good[:len(good)-1]), api.ErrForm},
		{seal(head + "\x01" + good + "x"), api.ErrForm},
		{seal(head + "\x07" + strings.Repeat(good, 7)), api.OK},
		{seal(head + "\x08" + strings.Repeat(good, 8)), api.ErrForm},
		{seal(head + "\x01\x00" + digest + "\x01\x00\x02\x00"), api.ErrForm}, // no key
		{seal(head + "\x01" + fixed.Text(strings.Repeat("k", 60), 1) + digest + "\x01\x00\x02\x00"), api.OK},
		{seal(head + "\x01" + fixed.Text(strings.Repeat("k", 61), 1) + digest + "\x01\x00\x02\x00"), api.ErrForm},
		{seal(head + "\x01\x01k" + digest + "\xc0\x03\x02\x00"), api.OK},
		{seal(head + "\x01\x01k" + digest + "\xc1\x03\x02\x00"), api.ErrForm}, // Len 961
		{seal(head + "\x01\x01k" + digest + "\x01\x00\xff\x01"), api.OK},
		{seal(head + "\x01\x01k" + digest + "\x01\x00\x00\x02"), api.ErrForm}, // At 512
	} {
		b, e := Decode(c.s)
		if e != c.want || e != api.OK && !reflect.DeepEqual(b, Block{}) {
			t.Errorf("%d: %v, %d, want %d", i, b, e, c.want)
		}
		if back, _ := Encode(b); e == api.OK && back != c.s {
			t.Errorf("%d: Encode: %q", i, back)
		}
	}
}

// P13.2
func TestAnyBlocks(t *testing.T) {
	r := rand.New(rand.NewSource(13))
	for range 300 {
		b := anyBlock(r)
		s, e := Encode(b)
		if e != api.OK {
			t.Fatalf("%v: %d", b, e)
		}
		back, e := Decode(s)
		if back.Seq != b.Seq || !slices.Equal(back.Entries, b.Entries) || e != api.OK {
			t.Fatalf("%v, %v, %d", b, back, e)
		}
		at := r.Intn(len(s))
		harmed := s[:at] + string([]byte{s[at] ^ byte(1<<r.Intn(8))}) + s[at+1:]
		if x, e := Decode(harmed); e != api.ErrSum || !reflect.DeepEqual(x, Block{}) {
			t.Fatalf("harm at %d: %v, %d", at, x, e)
		}
		body := s[:len(s)-32]
		cut := r.Intn(len(body))
		want := api.ErrForm
		if cut < 9 {
			want = api.ErrCut
		}
		if x, e := Decode(seal(body[:cut])); e != want || !reflect.DeepEqual(x, Block{}) {
			t.Fatalf("%d of %d bytes: %v, %d", cut, len(body), x, e)
		}
		changed := seal(harmed[:len(body)])
		if x, e := Decode(changed); e == api.OK {
			if again, _ := Encode(x); again != changed {
				t.Fatalf("%q: %v", changed, x)
			}
		} else if e != api.ErrForm {
			t.Fatalf("%q: %d", changed, e)
		}
	}
}

// P13.3, P13.4
func TestMerge(t *testing.T) {
	x := func(n int, at int) Entry { return Entry{Key: "k", Sum: digest, Len: n, At: at} }
	block := func(seq int, l ...Entry) Block { return Block{Seq: seq, Entries: l} }
	for i, c := range []struct {
		l    []Block
		want []Entry
	}{
		{nil, nil},
		{[]Block{}, nil},
		{[]Block{{}, {Seq: 5}}, nil},
		{[]Block{block(1, x(1, 9), x(2, 0), x(3, 511))}, []Entry{x(2, 0), x(1, 9), x(3, 511)}}, // by At
		{[]Block{block(2, x(1, 5)), block(1, x(2, 5))}, []Entry{x(1, 5)}},                      // the greatest Seq
		{[]Block{block(1, x(1, 5)), block(2, x(2, 5))}, []Entry{x(2, 5)}},
		{[]Block{block(0, x(1, 5)), block(0, x(2, 5))}, []Entry{x(2, 5)}}, // the last block
		{[]Block{block(3, x(1, 5), x(2, 5), x(3, 5))}, []Entry{x(3, 5)}},  // the last one there
		{[]Block{block(3, x(1, 5), x(2, 5)), block(3, x(3, 5), x(4, 5)), block(2, x(5, 5))}, []Entry{x(4, 5)}},
		{[]Block{block(1, x(1, 1)), block(9, x(2, 2)), block(1, x(3, 3), x(4, 2))}, []Entry{x(1, 1), x(2, 2), x(3, 3)}},
		{[]Block{block(9), block(1, x(1, 1))}, []Entry{x(1, 1)}}, // a newer block that does not tell of a place leaves it
		{[]Block{block(1, x(1, 1)), block(-1, x(2, 2)), block(1<<40+1, x(3, 1))}, []Entry{x(1, 1)}},
		{[]Block{block(1, x(1, 1)), block(2, x(2, 1), x(961, 2))}, []Entry{x(1, 1)}}, // one wrong entry spoils its block
		{[]Block{block(1, x(1, 1)), block(2, slices.Repeat([]Entry{x(2, 1)}, 8)...)}, []Entry{x(1, 1)}},
		{[]Block{block(1, x(1, -1)), block(1, x(1, 512)), block(2, Entry{At: 3})}, nil},
	} {
		if got := Merge(c.l); !slices.Equal(got, c.want) {
			t.Errorf("%d: %v, want %v", i, got, c.want)
		}
	}
}

// plainMerge goes from place to place, and looks at all blocks for each.
func plainMerge(l []Block) []Entry {
	var merged []Entry
	for at := range 512 {
		best, seq := Entry{}, -1
		for _, b := range l {
			for _, x := range b.Entries {
				if Check(b) == api.OK && x.At == at && b.Seq >= seq {
					best, seq = x, b.Seq
				}
			}
		}
		if seq >= 0 {
			merged = append(merged, best)
		}
	}
	return merged
}

// P13.3, P13.4, R5, R6
func TestMergeOfAnyBlocks(t *testing.T) {
	r := rand.New(rand.NewSource(31))
	for range 200 {
		var l []Block
		for range r.Intn(8) {
			b := anyBlock(r)
			if r.Intn(5) == 0 && len(b.Entries) > 0 {
				b.Entries[r.Intn(len(b.Entries))].Key = ""
			}
			l = append(l, b)
		}
		was := fmt.Sprint(l)
		got := Merge(l)
		if !slices.Equal(got, plainMerge(l)) {
			t.Fatalf("%v: %v, want %v", l, got, plainMerge(l))
		}
		clear(got)
		if !slices.Equal(Merge(l), plainMerge(l)) || fmt.Sprint(l) != was {
			t.Fatal("what was told is what was handed in")
		}
	}
}

// R5
func TestListsAreApart(t *testing.T) {
	b := with(func(x *Entry) {})
	s, _ := Encode(b)
	one, _ := Decode(s)
	clear(one.Entries)
	if two, _ := Decode(s); !slices.Equal(two.Entries, b.Entries) {
		t.Error(two)
	}
}
