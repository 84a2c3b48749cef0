package node

import (
	"maps"
	"math/rand"
	"slices"
	"strconv"
	"strings"
	"testing"

	"permafrost/api"
)

// of has a leaf of keys, and of what goes with each, one behind the other.
func of(entries ...string) Node {
	n := Node{Leaf: true}
	for i := 0; i < len(entries); i += 2 {
		n.Keys = append(n.Keys, entries[i])
		n.Vals = append(n.Vals, entries[i+1])
	}
	return n
}

func inner(n Node) Node {
	n.Leaf = false
	return n
}

func same(a Node, b Node) bool {
	return a.Leaf == b.Leaf && slices.Equal(a.Keys, b.Keys) && slices.Equal(a.Vals, b.Vals)
}

func isEmpty(n Node) bool { return !n.Leaf && len(n.Keys) == 0 && len(n.Vals) == 0 }

func long(n int) string { return strings.Repeat("x", n) }

// counted has so many entries, of keys of width bytes that rise, and of vals.
func counted(many int, width int, val string) Node {
	n := Node{Leaf: true}
	for i := range many {
		digits := strconv.Itoa(i)
		n.Keys = append(n.Keys, strings.Repeat("0", width-len(digits))+digits)
		n.Vals = append(n.Vals, val)
	}
	return n
}

// sized has a leaf of that Size, of at least 100.
func sized(size int) Node {
	n := Node{Leaf: true}
	for i := 0; size-Size(n) > 200; i++ {
		n = With(n, "b"+strconv.Itoa(100+i)+long(66), long(27)) // 100 bytes each
	}
	left := size - Size(n) - 3 // 95 bytes at least, where no more than 300 fit a Key
	return With(n, "c"+long(left-1), "")
}

// wrong has nodes whose entries may not be, by one thing each.
func wrong() map[string]Node {
	return map[string]Node{
		"a Key alone":          {Keys: []string{"a"}},
		"a Val alone":          {Leaf: true, Vals: []string{"a"}},
		"more Keys":            {Leaf: true, Keys: []string{"a", "b"}, Vals: []string{"1"}},
		"more Vals":            {Keys: []string{"a"}, Vals: []string{"1", "2"}},
		"the same Key twice":   of("a", "1", "a", "2"),
		"Keys that fall":       of("b", "1", "a", "2"),
		"Keys that fall, late": of("a", "", "b", "", "d", "", "c", ""),
		"bytes are no signs":   of("\xff", "", "a", ""),
		"the longer ahead":     of("aa", "", "a", ""),
		"an empty Key":         of("", "1"),
		"an empty Key ahead":   of("", "1", "a", "2"),
		"a Key of 301":         of(long(301), ""),
		"a Key of 301 behind":  of("a", "", long(301), ""),
		"a Val of 121":         of("a", long(121)),
		"a Val of 121 behind":  of("a", "", "b", long(121)),
		"256 entries":          counted(256, 3, ""),
	}
}

func TestSize(t *testing.T) { // P9.1
	for i, c := range []struct {
		n    Node
		size int
		e    api.Errno
	}{
		{Node{}, 2, api.OK},
		{Node{Leaf: true}, 2, api.OK},
		{Node{Keys: []string{}, Vals: []string{}}, 2, api.OK},
		{of("a", ""), 6, api.OK},
		{of("a", "b"), 7, api.OK},
		{inner(of("a", "b")), 7, api.OK},
		{of("a", "bb", "ccc", "dddd"), 2 + 6 + 10, api.OK},
		{of("a", "", "\x80", "", "\xff", ""), 14, api.OK},
		{of(long(300), long(120)), 425, api.OK},
		{of("\x00", "\x00\xff"), 8, api.OK},
		{of("\x00", "", "\x00\x00", ""), 2 + 4 + 5, api.OK},
		{counted(137, 4, ""), 961, api.ErrBig},
		{inner(counted(137, 4, "")), 961, api.ErrBig},
		{counted(136, 4, ""), 954, api.OK},
		{counted(255, 3, ""), 2 + 255*6, api.ErrBig},
		{counted(255, 3, long(120)), 2 + 255*126, api.ErrBig},
		{counted(239, 3, ""), 2 + 239*6, api.ErrBig},
	} {
		if size, e := Size(c.n), Check(c.n); size != c.size || e != c.e {
			t.Errorf("case %d: %d, %d", i, size, e)
		}
	}
	for size := 100; size <= 1000; size++ {
		n := sized(size)
		want := api.OK
		if size > 960 {
			want = api.ErrBig
		}
		if Size(n) != size || Check(n) != want {
			t.Errorf("%d: %d, %d", size, Size(n), Check(n))
		}
	}
}

func TestEntriesMayNotBe(t *testing.T) { // P9.1 to P9.4
	for name, n := range wrong() {
		given := own(n)
		if Size(n) != 0 || Check(n) != api.ErrArg {
			t.Errorf("%s: %d, %d", name, Size(n), Check(n))
		}
		if s, e := Encode(n); s != "" || e != api.ErrArg {
			t.Errorf("%s: %q, %d", name, s, e)
		}
		if a, b, is := Split(n); !isEmpty(a) || !isEmpty(b) || is {
			t.Errorf("%s: %v, %v, %v", name, a, b, is)
		}
		for _, key := range []string{"", "a", "b", "c", long(301), "005"} {
			if at, is := Find(n, key); at != 0 || is {
				t.Errorf("%s: %q: %d, %v", name, key, at, is)
			}
			if !same(With(n, key, "new"), given) || !same(Without(n, key), given) {
				t.Errorf("%s: %q: something is done", name, key)
			}
		}
	}
}

func TestEncode(t *testing.T) { // P9.2
	for i, c := range []struct {
		n    Node
		want string
	}{
		{of("a", "b"), "L\x01\x01\x00a\x01b"},
		{inner(of("a", "b")), "I\x01\x01\x00a\x01b"},
		{Node{}, "I\x00"},
		{Node{Leaf: true}, "L\x00"},
		{of("a", "", "b\x00", "\xff"), "L\x02\x01\x00a\x00\x02\x00b\x00\x01\xff"},
		{of(long(258), long(120)), "L\x01\x02\x01" + long(258) + "\x78" + long(120)},
		{of(long(300), ""), "L\x01\x2c\x01" + long(300) + "\x00"},
	} {
		if s, e := Encode(c.n); s != c.want || e != api.OK || len(s) != Size(c.n) {
			t.Errorf("case %d: %q, %d", i, s, e)
		}
		if n, e := Decode(c.want); !same(n, c.n) || e != api.OK {
			t.Errorf("case %d: %v, %d", i, n, e)
		}
		wantCut(t, c.want)
		if n, e := Decode(c.want + "\x00"); !isEmpty(n) || e != api.ErrForm {
			t.Errorf("case %d: a byte more: %v, %d", i, n, e)
		}
	}
}

func wantCut(t *testing.T, s string) {
	t.Helper()
	for i := range len(s) {
		if n, e := Decode(s[:i]); !isEmpty(n) || e != api.ErrCut {
			t.Errorf("%q: %v, %d", s[:i], n, e)
		}
	}
}

func TestEncodeTooLarge(t *testing.T) { // P9.2
	for size := 950; size <= 970; size++ {
		s, e := Encode(sized(size))
		if size > 960 {
			if s != "" || e != api.ErrBig {
				t.Errorf("%d: %q, %d", size, s, e)
			}
		} else if len(s) != size || e != api.OK {
			t.Errorf("%d: %d bytes, %d", size, len(s), e)
		}
	}
}

func TestDecodeWrong(t *testing.T) { // P9.2
	for i, s := range []string{
		"X\x00", "l\x00", "\x00\x00", "L\x00\x00", "I\x00L",
		"X\x01\x01\x00a\x01b",
		"L\x01\x00\x00\x00",                  // an empty Key
		"L\x01\x00\x00\x01b",                 // with a Val
		"L\x02\x01\x00a\x00\x01\x00a\x00",    // a Key twice
		"L\x02\x01\x00b\x00\x01\x00a\x00",    // Keys that fall
		"I\x02\x01\x00\xff\x00\x01\x00a\x00", // by bytes
		"L\x01\x2d\x01" + long(301) + "\x00",
		"L\x01\x01\x00a\x79" + long(121),
		"L\x01\x01\x00a\x01bL",
	} {
		if n, e := Decode(s); !isEmpty(n) || e != api.ErrForm {
			t.Errorf("case %d: %v, %d", i, n, e)
		}
		if s[0] != 'L' || s[1] != 0 {
			wantCut(t, s[:len(s)-1])
		}
	}
	big := "L\x04"
	for _, c := range "abcd" {
		big += "\xea\x00" + strings.Repeat(string(c), 234) + "\x02vv"
	}
	if n, e := Decode(big); len(big) != 958 || len(n.Keys) != 4 || e != api.OK {
		t.Errorf("%d bytes: %v, %d", len(big), n, e)
	}
	for _, more := range []int{1, 2, 3, 4} { // 959 to 962 bytes
		s := big[:len(big)-3] + string(rune(2+more)) + "vv" + long(more)
		n, e := Decode(s)
		if is := len(s) <= 960; is && (len(n.Keys) != 4 || e != api.OK) || !is && (!isEmpty(n) || e != api.ErrForm) {
			t.Errorf("%d bytes: %v, %d", len(s), n, e)
		}
	}
}

func TestDecodeCutGoesAhead(t *testing.T) { // P9.2: a text that ends within is cut, whatever else is wrong
	for i, s := range []string{
		"", "X", "L", "X\x01", "X\x01\x01\x00a", "L\x02\x00\x00\x00", "L\x02\x01\x00b\x00\x01\x00a",
		"L\x01\xff\xffabc", "L\x01\x2d\x01" + long(301), "L\x01\x01\x00a\x79" + long(120), "L\xff" + long(300),
	} {
		if n, e := Decode(s); !isEmpty(n) || e != api.ErrCut {
			t.Errorf("case %d: %v, %d", i, n, e)
		}
	}
}

func TestDecodeIsExact(t *testing.T) { // P9.2: of any text the node, or none, whose Encode it is
	r := rand.New(rand.NewSource(9))
	good := 0
	for range 200000 {
		b := []byte("L\x02\x01\x00a\x01b\x01\x00c\x00")[:2+r.Intn(10)]
		for range r.Intn(3) {
			b[r.Intn(len(b))] = byte(r.Intn(5) * 97 / 2)
		}
		n, e := Decode(string(b))
		if e != api.OK {
			if !isEmpty(n) || e != api.ErrCut && e != api.ErrForm {
				t.Fatalf("%q: %v, %d", b, n, e)
			}
			continue
		}
		good++
		if s, e := Encode(n); s != string(b) || e != api.OK {
			t.Fatalf("%q: %v: %q, %d", b, n, s, e)
		}
	}
	if good == 0 {
		t.Error("no text was a node's")
	}
}

func TestFind(t *testing.T) { // P9.3
	n := of("b", "1", "bb", "2", "d", "3", "\xff", "4")
	for _, c := range []struct {
		key string
		at  int
		is  bool
	}{
		{"", 0, false}, {"\x00", 0, false}, {"a", 0, false}, {"azzz", 0, false},
		{"b", 0, true}, {"b\x00", 0, false}, {"ba", 0, false}, {"bb", 1, true}, {"bba", 1, false}, {"c", 1, false},
		{"d", 2, true}, {"d\x00", 2, false}, {"\xfe\xff", 2, false}, {"\xff", 3, true}, {"\xff\x00", 3, false},
		{long(301), 2, false}, {strings.Repeat("\xff", 1000), 3, false},
	} {
		for _, m := range []Node{n, inner(n)} {
			if at, is := Find(m, c.key); at != c.at || is != c.is {
				t.Errorf("%q: %d, %v", c.key, at, is)
			}
		}
	}
	for _, key := range []string{"", "a", long(301)} {
		if at, is := Find(Node{}, key); at != 0 || is {
			t.Errorf("of no entries: %q: %d, %v", key, at, is)
		}
	}
	large := counted(255, 3, long(120)) // too large, but its entries may be
	for i, key := range large.Keys {
		if at, is := Find(large, key); at != i || !is {
			t.Errorf("%q: %d, %v", key, at, is)
		}
		if at, is := Find(large, key+"x"); at != i || is {
			t.Errorf("%qx: %d, %v", key, at, is)
		}
	}
}

func TestWith(t *testing.T) { // P9.3
	n := of("b", "1", "d", "2")
	for _, c := range []struct {
		key, val string
		want     Node
	}{
		{"a", "x", of("a", "x", "b", "1", "d", "2")},
		{"c", "", of("b", "1", "c", "", "d", "2")},
		{"e", "x", of("b", "1", "d", "2", "e", "x")},
		{"b", "x", of("b", "x", "d", "2")},
		{"d", "", of("b", "1", "d", "")},
		{"bb", "x", of("b", "1", "bb", "x", "d", "2")},
		{"\x00", "\x00", of("\x00", "\x00", "b", "1", "d", "2")},
		{long(300), long(120), of("b", "1", "d", "2", long(300), long(120))},
		{"", "x", n}, {long(301), "x", n}, {"c", long(121), n}, {"b", long(121), n}, {"", long(121), n},
	} {
		for _, leaf := range []bool{true, false} {
			m, want := own(n), own(c.want)
			m.Leaf, want.Leaf = leaf, leaf
			if got := With(m, c.key, c.val); !same(got, want) {
				t.Errorf("%q: %v", c.key, got)
			}
			if m.Leaf = true; !same(m, n) {
				t.Errorf("%q: what was handed in is %v", c.key, m)
			}
		}
	}
	if m := With(Node{}, "a", "x"); !same(m, inner(of("a", "x"))) {
		t.Errorf("%v", m)
	}
	if m := With(sized(960), "zz", long(120)); Size(m) != 960+125 || Check(m) != api.ErrBig {
		t.Errorf("%d, %d", Size(m), Check(m))
	}
	if m := With(counted(255, 3, ""), "999", ""); len(m.Keys) != 256 || Check(m) != api.ErrArg {
		t.Errorf("%d entries, %d", len(m.Keys), Check(m))
	}
}

func TestWithout(t *testing.T) { // P9.3
	n := of("b", "1", "d", "2", "e", "3")
	for _, c := range []struct {
		key  string
		want Node
	}{
		{"b", of("d", "2", "e", "3")}, {"d", of("b", "1", "e", "3")}, {"e", of("b", "1", "d", "2")},
		{"", n}, {"a", n}, {"c", n}, {"dd", n}, {"f", n}, {long(301), n},
	} {
		for _, leaf := range []bool{true, false} {
			m, want := own(n), own(c.want)
			m.Leaf, want.Leaf = leaf, leaf
			if got := Without(m, c.key); !same(got, want) {
				t.Errorf("%q: %v", c.key, got)
			}
			if m.Leaf = true; !same(m, n) {
				t.Errorf("%q: what was handed in is %v", c.key, m)
			}
		}
	}
	if m := Without(of("a", "1"), "a"); !m.Leaf || len(m.Keys) != 0 || Check(m) != api.OK {
		t.Errorf("%v", m)
	}
	if !isEmpty(Without(Node{}, "a")) {
		t.Error("of no entries")
	}
}

// roomy has n with room behind its lists that is filled, so that a write there shows.
func roomy(n Node) (Node, func() []string) {
	keys := append(slices.Clone(n.Keys), "yy", "zz")
	vals := append(slices.Clone(n.Vals), "yy", "zz")
	m := Node{Leaf: n.Leaf, Keys: keys[:len(n.Keys)], Vals: vals[:len(n.Vals)]}
	return m, func() []string { return slices.Concat(keys, vals) }
}

// scribble writes over all that n has, and behind it.
func scribble(n Node) {
	for _, l := range [][]string{n.Keys, n.Vals} {
		l = l[:cap(l)]
		for i := range l {
			l[i] = "?"
		}
	}
}

func TestAnswersAreNew(t *testing.T) { // R5 of P9.3 and P9.4
	given := append(slices.Collect(maps.Values(wrong())), of("b", "1", "d", "2", "f", "3"), Node{Leaf: true})
	for _, n := range given {
		for _, key := range []string{"", "a", "b", "c", "d", "f", "g", long(301)} {
			m, all := roomy(n)
			was := all()
			scribble(With(m, key, "v"))
			scribble(Without(m, key))
			a, b, _ := Split(m)
			second := own(b)
			scribble(a)
			if !same(b, second) {
				t.Errorf("%v: one half is in the other's memory", n)
			}
			scribble(b)
			if !slices.Equal(all(), was) {
				t.Errorf("%v, %q: what was handed in is changed", n, key)
			}
		}
	}
}

// bestCut is the cut that P9.4 asks for, by trying them all.
func bestCut(n Node) int {
	best, least := 0, 0
	for at := 1; at < len(n.Keys); at++ {
		a := Size(Node{Keys: n.Keys[:at], Vals: n.Vals[:at]})
		b := Size(Node{Keys: n.Keys[at:], Vals: n.Vals[at:]})
		if best == 0 || max(a, b) < least {
			best, least = at, max(a, b)
		}
	}
	return best
}

func wantSplit(t *testing.T, n Node, at int) {
	t.Helper()
	a, b, is := Split(n)
	wantA := Node{Leaf: n.Leaf, Keys: n.Keys[:at], Vals: n.Vals[:at]}
	wantB := Node{Leaf: n.Leaf, Keys: n.Keys[at:], Vals: n.Vals[at:]}
	if !is || !same(a, wantA) || !same(b, wantB) {
		t.Errorf("%v: %v, %v, %v, not at %d", n, a, b, is, at)
	}
}

func TestSplit(t *testing.T) { // P9.4
	for _, c := range []struct {
		n  Node
		at int
	}{
		{of("a", "", "b", ""), 1},
		{of("a", long(120), "b", ""), 1},
		{of("a", "", "b", "", "c", ""), 1}, // of both cuts the first one
		{of("a", "", "b", "", "c", "x"), 2},
		{of("a", "x", "b", "", "c", ""), 1},
		{of("a", "", "b", "", "c", "", "d", ""), 2},
		{of("a", long(120), "b", "", "c", "", "d", ""), 1},
		{of("a", "", "b", "", "c", "", "d", long(120)), 3},
		{of("a", "", "b", long(120), "c", "", "d", ""), 2},
		{of("a", "", "b", long(8), "c", ""), 1},
		{of("a", "xx", "b", long(8), "c", ""), 1},
		{of("a", "", "b", long(8), "c", "xx"), 2},
		{counted(255, 3, ""), 127},
		{counted(254, 3, long(120)), 127},
	} {
		wantSplit(t, c.n, c.at)
		wantSplit(t, inner(c.n), c.at)
	}
	for _, n := range []Node{{}, {Leaf: true}, of("a", "1"), inner(of("a", "1"))} {
		if a, b, is := Split(n); !isEmpty(a) || !isEmpty(b) || is {
			t.Errorf("%v: %v, %v, %v", n, a, b, is)
		}
	}
}

// anyNode has entries of any size that may be, while it may be itself.
func anyNode(r *rand.Rand) Node {
	n := Node{Leaf: r.Intn(2) == 0}
	most := []int{3, 40, 300}[r.Intn(3)]
	for range 1 + r.Intn(200) {
		m := With(n, anyKey(r, most), long(r.Intn(min(most, 120)+1)))
		if Check(m) != api.OK {
			break
		}
		n = m
	}
	return n
}

func anyKey(r *rand.Rand, most int) string {
	b := make([]byte, 1+r.Intn(most))
	for i := range b {
		b[i] = byte(r.Intn(256))
	}
	return string(b)
}

func TestAnyNodes(t *testing.T) { // P9.1 to P9.5
	r := rand.New(rand.NewSource(5))
	for range 1000 {
		n := anyNode(r)
		s, e := Encode(n)
		if e != api.OK || len(s) != Size(n) {
			t.Fatalf("%v: %d, %d", n, len(s), e)
		}
		if m, e := Decode(s); !same(m, n) || e != api.OK {
			t.Fatalf("%v: %v, %d", n, m, e)
		}
		if n.Keys == nil {
			continue
		}
		key := n.Keys[r.Intn(len(n.Keys))]
		if m := With(Without(n, key), key, n.Vals[slices.Index(n.Keys, key)]); !same(m, n) {
			t.Fatalf("%v: %q: %v", n, key, m)
		}
		for range 10 {
			m := With(n, anyKey(r, 300), long(r.Intn(121)))
			if len(m.Keys) > 1 {
				wantSplit(t, m, bestCut(m))
			}
			wantHalves(t, m)
		}
	}
}

// wantHalves asks for two nodes that may be, where n is too large for one.
func wantHalves(t *testing.T, n Node) {
	t.Helper()
	if Check(n) == api.OK {
		return
	}
	if a, b, is := Split(n); !is || Check(a) != api.OK || Check(b) != api.OK {
		t.Errorf("%v: %d, %d, %v", n, Check(a), Check(b), is)
	}
}

func TestHalvesMayBe(t *testing.T) { // P9.5: the greatest entry at each place of the greatest nodes
	for _, many := range []int{2, 3, 4, 7, 20, 100} {
		n := Node{}
		for i := range many {
			key := strconv.Itoa(100 + i)
			room := (958-many*6)/many + 3
			n = With(n, key+strings.Repeat("k", min(room, 300)-3), long(min(max(room-300, 0), 120)))
		}
		if Check(n) != api.OK || many > 2 && 960-Size(n) > many {
			t.Fatalf("%d entries: %d", many, Size(n))
		}
		for i := range many + 1 {
			key := strconv.Itoa(99+i) + strings.Repeat("z", 297)
			m := With(n, key, long(120))
			if Check(m) != api.ErrBig || len(m.Keys) != many+1 {
				t.Errorf("%d entries, %d: %d", many, i, Check(m))
			}
			wantHalves(t, m)
			wantSplit(t, m, bestCut(m))
		}
	}
}
