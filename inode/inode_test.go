package inode

import (
	"cmp"
	"encoding/binary"
	"math"
	"math/rand"
	"slices"
	"strings"
	"testing"

	"permafrost/api"
)

const most = 1 << 31

// noNumbers are numbers that may not be; cut to four bytes, some of them may.
var noNumbers = []int{most + 1, -1, -most, 1<<32 - 1, 1 << 32, 1<<32 + 1, 1 << 40, math.MinInt, math.MaxInt}

// words has numbers' words, written out.
var words = map[int]string{
	0:          "\x00\x00\x00\x00",
	1:          "\x00\x00\x00\x01",
	255:        "\x00\x00\x00\xff",
	256:        "\x00\x00\x01\x00",
	258:        "\x00\x00\x01\x02",
	0x01020304: "\x01\x02\x03\x04",
	most - 1:   "\x7f\xff\xff\xff",
	most:       "\x80\x00\x00\x00",
}

// noWords are four bytes each that are no number's.
var noWords = []string{"\x80\x00\x00\x01", "\x80\x00\x01\x00", "\x81\x00\x00\x00", "\xff\x00\x00\x00", "\xff\xff\xff\xff"}

func long(n int) string { return strings.Repeat("n", n) }

// names may stand in an Entry: any bytes do.
var names = []string{"a", "abc", "\x00", "/", ".", "..", "\xff\xfe", "\x00\x00\x00\x01", long(254), long(255)}

var noNames = []string{"", long(256), long(1000)}

// told asks for what Which tells of a key.
func told(t *testing.T, key string, kind, n int, rest string) {
	t.Helper()
	if k, m, s, is := Which(key); k != kind || m != n || s != rest || !is {
		t.Errorf("%q: %d, %d, %q, %v", key, k, m, s, is)
	}
}

// untold asks for nothing.
func untold(t *testing.T, key string) {
	t.Helper()
	if k, m, s, is := Which(key); k != 0 || m != 0 || s != "" || is {
		t.Errorf("%q: %d, %d, %q, %v", key, k, m, s, is)
	}
}

func TestKey(t *testing.T) { // P15.1
	for n, w := range words {
		if s := Key(n); s != "i"+w {
			t.Errorf("%d: %q", n, s)
		}
		told(t, "i"+w, 0, n, "")
	}
	for _, n := range noNumbers {
		if s := Key(n); s != "" {
			t.Errorf("%d: %q", n, s)
		}
	}
}

func TestEntry(t *testing.T) { // P15.1
	for n, w := range words {
		for _, name := range names {
			if s := Entry(n, name); s != "d"+w+name {
				t.Errorf("%d, %q: %q", n, name, s)
			}
			told(t, "d"+w+name, 1, n, name)
		}
		for _, name := range noNames {
			if s := Entry(n, name); s != "" {
				t.Errorf("%d, %d bytes: %q", n, len(name), s)
			}
			untold(t, "d"+w+name)
		}
	}
	for _, n := range noNumbers {
		for _, name := range slices.Concat(names, noNames) {
			if s := Entry(n, name); s != "" {
				t.Errorf("%d, %q: %q", n, name, s)
			}
		}
	}
}

func TestChunk(t *testing.T) { // P15.1
	for n, w := range words {
		for k, v := range words {
			if s := Chunk(n, k); s != "c"+w+v {
				t.Errorf("%d, %d: %q", n, k, s)
			}
			told(t, "c"+w+v, 2, n, v)
		}
		for _, k := range noNumbers {
			if s := Chunk(n, k); s != "" {
				t.Errorf("%d, %d: %q", n, k, s)
			}
			if s := Chunk(k, n); s != "" {
				t.Errorf("%d, %d: %q", k, n, s)
			}
		}
	}
	for _, n := range noNumbers {
		if s := Chunk(n, n); s != "" {
			t.Errorf("%d twice: %q", n, s)
		}
	}
}

func TestWhichOfNoKeys(t *testing.T) { // P15.1
	good := words[258]
	for _, key := range []string{
		"", "i", "d", "c", "i\x00", "i\x00\x00\x01", "d\x00\x00\x01", "c\x00\x00\x01",
		"i" + good + "\x00", "i" + good + good, "i" + good + "a", "d" + good, "c" + good,
		"c" + good + "\x00", "c" + good + "\x00\x00\x01", "c" + good + good + "\x00", "c" + good + good + good,
		good, "x" + good, "I" + good, "D" + good + "a", "C" + good + good, "\x00" + good, "ii" + good,
	} {
		untold(t, key)
	}
	for _, w := range noWords {
		untold(t, "i"+w)
		untold(t, "d"+w+"a")
		untold(t, "c"+w+good)
		untold(t, "c"+good+w)
		untold(t, "c"+w+w)
		told(t, "d"+good+w, 1, 258, w) // a name may be any bytes
	}
	for mark := range 256 {
		if m := string([]byte{byte(mark)}); !strings.Contains("idc", m) {
			for _, rest := range []string{"", "a", good} {
				untold(t, m+good+rest)
			}
		}
	}
}

// again makes the key anew that Which tells.
func again(kind, n int, rest string) string {
	switch kind {
	case 0:
		return Key(n)
	case 1:
		return Entry(n, rest)
	}
	return Chunk(n, int(binary.BigEndian.Uint32([]byte(rest))))
}

func TestWhichIsExact(t *testing.T) { // P15.1: a key is told if and only if one of the calls makes it
	r := rand.New(rand.NewSource(15))
	told := 0
	for range 200000 {
		b := make([]byte, r.Intn(12))
		for i := range b {
			b[i] = []byte{0, 1, 'i', 'd', 'c', 0x7f, 0x80, 0xff}[r.Intn(8)]
		}
		key := string(b)
		kind, n, rest, is := Which(key)
		if is != mayBe(key) {
			t.Fatalf("%q: %v", key, is)
		}
		if !is {
			untold(t, key)
			continue
		}
		told++
		if s := again(kind, n, rest); s != key {
			t.Fatalf("%q: %d, %d, %q: %q", key, kind, n, rest, s)
		}
	}
	if told == 0 {
		t.Error("no key was told")
	}
}

// mayBe tells by the document's words whether s is a key.
func mayBe(s string) bool {
	isWord := func(w string) bool {
		return len(w) == 4 && binary.BigEndian.Uint32([]byte(w)) <= most
	}
	if len(s) < 5 || !isWord(s[1:5]) {
		return false
	}
	switch rest := s[5:]; s[0] {
	case 'i':
		return rest == ""
	case 'd':
		return len(rest) >= 1 && len(rest) <= 255
	case 'c':
		return isWord(rest)
	}
	return false
}

func TestEncode(t *testing.T) { // P15.2
	for _, c := range []struct {
		i    Inode
		want string
	}{
		{Inode{}, "\x00\x00\x00\x00\x00\x00\x00\x00\x00"},
		{Inode{Dir: true}, "\x01\x00\x00\x00\x00\x00\x00\x00\x00"},
		{Inode{Size: 258, Links: 3}, "\x00\x02\x01\x00\x00\x03\x00\x00\x00"},
		{Inode{Dir: true, Size: 3, Links: 258}, "\x01\x03\x00\x00\x00\x02\x01\x00\x00"},
		{Inode{Size: 0x04030201, Links: 0x08070605}, "\x00\x01\x02\x03\x04\x05\x06\x07\x08"},
		{Inode{Dir: true, Size: most, Links: most - 1}, "\x01\x00\x00\x00\x80\xff\xff\xff\x7f"},
		{Inode{Size: most - 1, Links: most}, "\x00\xff\xff\xff\x7f\x00\x00\x00\x80"},
	} {
		if s, e := Encode(c.i); s != c.want || e != api.OK {
			t.Errorf("%v: %q, %d", c.i, s, e)
		}
		if i, e := Decode(c.want); i != c.i || e != api.OK {
			t.Errorf("%q: %v, %d", c.want, i, e)
		}
	}
}

func TestEncodeWrong(t *testing.T) { // P15.2
	for _, n := range noNumbers {
		for _, i := range []Inode{{Size: n}, {Links: n}, {Size: n, Links: n}, {Dir: true, Size: n, Links: most}, {Dir: true, Size: most, Links: n}} {
			if s, e := Encode(i); s != "" || e != api.ErrArg {
				t.Errorf("%v: %q, %d", i, s, e)
			}
		}
	}
}

func TestDecodeWrong(t *testing.T) { // P15.2
	good := "\x01\x02\x00\x00\x00\x03\x00\x00\x00"
	for n := range len(good) {
		for _, s := range []string{good[:n], long(n)} { // what is too short is cut, whatever it has
			if i, e := Decode(s); i != (Inode{}) || e != api.ErrCut {
				t.Errorf("%q: %v, %d", s, i, e)
			}
		}
	}
	for _, s := range []string{
		"\x02" + good[1:], "\x80" + good[1:], "\xff" + good[1:], "i" + good[1:],
		"\x01\x01\x00\x00\x80\x03\x00\x00\x00", "\x00\xff\xff\xff\xff\x03\x00\x00\x00", "\x00\x00\x00\x00\x81\x03\x00\x00\x00",
		"\x01\x02\x00\x00\x00\x01\x00\x00\x80", "\x00\x02\x00\x00\x00\xff\xff\xff\xff", "\x00\x02\x00\x00\x00\x00\x00\x00\x81",
		good + "\x00", good + "x", good + good, long(9), long(10), long(1000),
	} {
		if i, e := Decode(s); i != (Inode{}) || e != api.ErrForm {
			t.Errorf("%q: %v, %d", s, i, e)
		}
	}
}

func TestDecodeIsExact(t *testing.T) { // P15.2: of any text the inode, or none, whose Encode it is
	r := rand.New(rand.NewSource(2))
	good := 0
	for range 100000 {
		b := make([]byte, 8+r.Intn(3))
		for i := range b {
			b[i] = []byte{0, 1, 2, 0x7f, 0x80, 0xff}[r.Intn(6)]
		}
		i, e := Decode(string(b))
		s, is := Encode(i)
		switch {
		case e == api.OK:
			good++
			if s != string(b) || is != api.OK {
				t.Fatalf("%q: %v: %q", b, i, s)
			}
		case i != (Inode{}):
			t.Fatalf("%q: %v, %d", b, i, e)
		}
		if want := len(b) == 9 && b[0] <= 1 && binary.LittleEndian.Uint32(b[1:]) <= most && binary.LittleEndian.Uint32(b[5:]) <= most; (e == api.OK) != want {
			t.Fatalf("%q: %d", b, e)
		}
	}
	if good == 0 {
		t.Error("no text was an inode's")
	}
}

func TestAnyInodes(t *testing.T) { // P15.2
	r := rand.New(rand.NewSource(3))
	for range 10000 {
		i := Inode{Dir: r.Intn(2) == 0, Size: r.Intn(most + 1), Links: r.Intn(most + 1)}
		s, e := Encode(i)
		if len(s) != 9 || e != api.OK {
			t.Fatalf("%v: %q, %d", i, s, e)
		}
		if back, e := Decode(s); back != i || e != api.OK {
			t.Fatalf("%v: %v, %d", i, back, e)
		}
	}
}

// of is what a key is of: its number, and what is asked of that.
type of struct {
	kind, n, k int
	name       string
}

func (x of) key() string {
	switch x.kind {
	case 0:
		return Key(x.n)
	case 1:
		return Entry(x.n, x.name)
	}
	return Chunk(x.n, x.k)
}

// anyOf draws numbers whose words differ in any of their bytes.
func anyOf(r *rand.Rand) of {
	number := func() int { return min(r.Intn(3)<<(8*r.Intn(4))+r.Intn(3), most) }
	x := of{kind: r.Intn(3), n: number()}
	switch x.kind {
	case 1:
		b := make([]byte, 1+r.Intn(5))
		for i := range b {
			b[i] = []byte{0, 1, 'c', 'd', 'i', 0xff}[r.Intn(6)]
		}
		x.name = string(b)
	case 2:
		x.k = number()
	}
	return x
}

func TestKeysStandInOrder(t *testing.T) { // P15.3
	r := rand.New(rand.NewSource(4))
	all := map[of]int{}
	for range 3000 {
		all[anyOf(r)]++
	}
	all[of{n: most}]++
	all[of{kind: 1, n: most, name: "a"}]++
	all[of{kind: 2, n: most, k: most}]++
	var l []of
	keys := map[string]int{}
	for x := range all {
		l = append(l, x)
		keys[x.key()]++
	}
	if len(keys) != len(all) {
		t.Errorf("%d keys of %d things", len(keys), len(all))
	}
	slices.SortFunc(l, func(a, b of) int { return cmp.Compare(a.key(), b.key()) })
	for i, x := range l[1:] {
		w := l[i]
		if w.kind != x.kind {
			continue
		}
		if cmp.Or(cmp.Compare(w.n, x.n), cmp.Compare(w.k, x.k), cmp.Compare(w.name, x.name)) >= 0 {
			t.Errorf("%q stands ahead of %q", w.key(), x.key())
		}
	}
	changes := 0
	for i, x := range l[1:] {
		if l[i].kind != x.kind {
			changes++
		}
	}
	if changes != 2 {
		t.Errorf("kinds change %d times", changes)
	}
}
