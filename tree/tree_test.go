package tree

import (
	"maps"
	"math"
	"math/rand"
	"slices"
	"strconv"
	"strings"
	"testing"

	"permafrost/api"
	"permafrost/node"
)

// shelf is a store in memory. It counts what it is asked, may be full, and may
// have lost a text.
type shelf struct {
	texts map[string]string
	wide  int // a ref is filled up to so many bytes
	room  int
	lost  string
	gets  []string
	puts  int
}

func newShelf() *shelf { return &shelf{texts: map[string]string{}, room: math.MaxInt} }

func (s *shelf) Get(ref string) (string, api.Errno) {
	s.gets = append(s.gets, ref)
	text, is := s.texts[ref]
	if !is || ref == s.lost {
		return "text of " + ref, api.ErrLost // the text of an error is nobody's
	}
	return text, api.OK
}

func (s *shelf) Put(text string) (string, api.Errno) {
	if s.room == 0 {
		return "ref", api.ErrFull
	}
	s.room--
	s.puts++
	ref := "r" + strconv.Itoa(len(s.texts))
	ref += strings.Repeat("_", max(s.wide-len(ref), 0))
	s.texts[ref] = text
	return ref, api.OK
}

// made has a store of nodes that are written out, by their refs.
func made(nodes map[string]node.Node) *shelf {
	s := newShelf()
	for ref, n := range nodes {
		text, e := node.Encode(n)
		if e != api.OK {
			panic("a test's node " + ref)
		}
		s.texts[ref] = text
	}
	return s
}

// leaf and inner have nodes of keys, and of what goes with each, one behind the other.
func leaf(entries ...string) node.Node {
	n := inner(entries...)
	n.Leaf = true
	return n
}

func inner(entries ...string) node.Node {
	var n node.Node
	for i := 0; i < len(entries); i += 2 {
		n.Keys = append(n.Keys, entries[i])
		n.Vals = append(n.Vals, entries[i+1])
	}
	return n
}

func sorted(want map[string]string) []Pair {
	var l []Pair
	for _, key := range slices.Sorted(maps.Keys(want)) {
		l = append(l, Pair{key, want[key]})
	}
	return l
}

func mustPut(t *testing.T, s Store, root string, key string, val string) string {
	t.Helper()
	next, e := Put(s, root, key, val)
	if next == "" || e != api.OK {
		t.Fatalf("put %.20q: %q, %d", key, next, e)
	}
	return next
}

func mustDelete(t *testing.T, s Store, root string, key string) string {
	t.Helper()
	next, e := Delete(s, root, key)
	if e != api.OK {
		t.Fatalf("delete %.20q: %d", key, e)
	}
	return next
}

// wantPairs asks by Scan for all pairs, and for what Get tells of each.
func wantPairs(t *testing.T, s Store, root string, want map[string]string) {
	t.Helper()
	l, e := Scan(s, root, "", math.MaxInt)
	if e != api.OK || !slices.Equal(l, sorted(want)) {
		t.Fatalf("%d pairs, not %d, %d", len(l), len(want), e)
	}
	for _, p := range l {
		wantGet(t, s, root, p.Key, p.Val, api.OK)
	}
}

func wantGet(t *testing.T, s Store, root string, key string, val string, e api.Errno) {
	t.Helper()
	if v, got := Get(s, root, key); v != val || got != e {
		t.Errorf("get %.20q: %q, %d, not %q, %d", key, v, got, val, e)
	}
}

// wantSound asks that what stands below root is a tree by the chapter's words,
// of nodes that may be, each with an entry; and for how high it is.
func wantSound(t *testing.T, s *shelf, root string) int {
	t.Helper()
	if root == "" {
		return 0
	}
	seen := map[string]int{}
	var order []string
	height := 0
	var look func(ref string, from string, to string, depth int)
	look = func(ref string, from string, to string, depth int) {
		order = append(order, ref)
		seen[ref]++
		height = max(height, depth)
		n, e := node.Decode(s.texts[ref])
		if e != api.OK || node.Check(n) != api.OK || len(n.Keys) == 0 || seen[ref] > 1 || depth > 20 {
			t.Fatalf("%q, %d times, at %d: %d", ref, seen[ref], depth, e)
		}
		for i, key := range n.Keys {
			if n.Leaf && (key < from || to != "" && key >= to) || !n.Leaf && i > 0 && (key < from || to != "" && key > to) {
				t.Fatalf("%q: %q is not within %q and %q", ref, key, from, to)
			}
			if n.Leaf {
				continue
			}
			least, most := from, to
			if i > 0 {
				least = key
			}
			if i+1 < len(n.Keys) {
				most = n.Keys[i+1]
			}
			look(n.Vals[i], least, most, depth+1)
		}
	}
	look(root, "", "", 1)
	if refs, e := Refs(s, root); e != api.OK || !slices.Equal(refs, order) {
		t.Fatalf("refs: %v, %d, not %v", refs, e, order)
	}
	return height
}

func TestEmptyTree(t *testing.T) { // P10.1 to P10.3
	s := newShelf()
	wantGet(t, s, "", "a", "", api.ErrNone)
	wantGet(t, s, "", "", "", api.ErrNone)
	if root, e := Delete(s, "", "a"); root != "" || e != api.ErrNone {
		t.Errorf("%q, %d", root, e)
	}
	if l, e := Scan(s, "", "", 9); len(l) != 0 || e != api.OK {
		t.Errorf("%v, %d", l, e)
	}
	if l, e := Refs(s, ""); len(l) != 0 || e != api.OK {
		t.Errorf("%v, %d", l, e)
	}
	if len(s.gets) != 0 || s.puts != 0 {
		t.Errorf("a store is asked of no tree: %v, %d", s.gets, s.puts)
	}
	root := mustPut(t, s, "", "a", "")
	if text := s.texts[root]; text != "L\x01\x01\x00a\x00" {
		t.Errorf("%q", text)
	}
	if root = mustDelete(t, s, root, "a"); root != "" {
		t.Errorf("%q", root)
	}
}

func TestPutGetDelete(t *testing.T) { // P10.1, P10.2, P10.4, and the chapter's example
	s := newShelf()
	first := mustPut(t, s, "", "b", "1")
	second := mustPut(t, s, first, "a", "2")
	third := mustPut(t, s, second, "b", "3")
	fourth := mustDelete(t, s, third, "a")
	wantPairs(t, s, first, map[string]string{"b": "1"})
	wantPairs(t, s, second, map[string]string{"a": "2", "b": "1"})
	wantPairs(t, s, third, map[string]string{"a": "2", "b": "3"})
	wantPairs(t, s, fourth, map[string]string{"b": "3"})
	wantGet(t, s, first, "a", "", api.ErrNone)
	for _, key := range []string{"", "\x00", "aa", "c", "b\x00", strings.Repeat("b", 301)} {
		wantGet(t, s, third, key, "", api.ErrNone)
		if root, e := Delete(s, third, key); root != "" || e != api.ErrNone {
			t.Errorf("%q: %q, %d", key, root, e)
		}
	}
}

func TestPutWrong(t *testing.T) { // P10.2
	s := newShelf()
	root := mustPut(t, s, "", "a", "1")
	puts, gets := s.puts, len(s.gets)
	for _, p := range []Pair{
		{"", ""}, {"", "v"}, {strings.Repeat("k", 301), ""}, {"k", strings.Repeat("v", 121)}, {"", strings.Repeat("v", 121)},
	} {
		for _, r := range []string{"", root, "no ref"} { // ErrArg goes ahead of what the store tells
			if next, e := Put(s, r, p.Key, p.Val); next != "" || e != api.ErrArg {
				t.Errorf("%.9q, %.9q: %q, %d", p.Key, p.Val, next, e)
			}
		}
	}
	if s.puts != puts || len(s.gets) != gets {
		t.Error("something was done")
	}
	long := mustPut(t, s, root, strings.Repeat("k", 300), strings.Repeat("v", 120))
	wantPairs(t, s, long, map[string]string{"a": "1", strings.Repeat("k", 300): strings.Repeat("v", 120)})
}

func TestOneLeaf(t *testing.T) { // P10.2: while all may be one leaf, it is one
	val := strings.Repeat("v", 85)           // 90 bytes for an entry
	for _, last := range []int{35, 36, 37} { // 959 to 961 bytes
		s := newShelf()
		root := ""
		all := node.Node{Leaf: true}
		for _, i := range rand.New(rand.NewSource(1)).Perm(10) {
			root = mustPut(t, s, root, strconv.Itoa(10+i), val)
			root = mustPut(t, s, root, strconv.Itoa(10+i), val)
			all = node.With(all, strconv.Itoa(10+i), val)
		}
		key := "15" + strings.Repeat("x", last-2)
		all = node.With(all, key, strings.Repeat("w", 19))
		root = mustPut(t, s, root, key, strings.Repeat("w", 19))
		refs, _ := Refs(s, root)
		if node.Size(all) != 924+last {
			t.Fatalf("%d", node.Size(all))
		}
		if last < 37 {
			if text, _ := node.Encode(all); len(refs) != 1 || s.texts[root] != text {
				t.Errorf("%d: %d nodes", last, len(refs))
			}
			continue
		}
		a, b, _ := node.Split(all)
		first, _ := node.Encode(a)
		second, _ := node.Encode(b)
		if len(refs) != 3 || s.texts[refs[1]] != first || s.texts[refs[2]] != second {
			t.Errorf("%d: %d nodes", last, len(refs))
		}
	}
}

func TestCutOnlyWhereItMust(t *testing.T) { // P10.2
	s := newShelf()
	root := ""
	for i := range 400 {
		root = mustPut(t, s, root, "key "+strconv.Itoa(1000+i*7), "value")
	}
	refs, _ := Refs(s, root)
	for i := range 400 { // what is put instead is no longer
		key := "key " + strconv.Itoa(1000+i*7)
		s.puts, s.gets = 0, nil
		root = mustPut(t, s, root, key, "other")
		if now, _ := Refs(s, root); len(now) != len(refs) || s.puts != wantSound(t, s, root) {
			t.Fatalf("%q: %d nodes, not %d; %d puts", key, len(now), len(refs), s.puts)
		}
	}
	for i := range 700 {
		key := "key " + strconv.Itoa(1000+i*4)
		before, _ := Refs(s, root)
		overfull := !mayTake(t, s, root, key, "x")
		root = mustPut(t, s, root, key, "x")
		if now, _ := Refs(s, root); len(now) > len(before) != overfull {
			t.Fatalf("%q: %d nodes, and then %d; %v", key, len(before), len(now), overfull)
		}
	}
}

// mayTake tells whether the leaf that key belongs to may be with it.
func mayTake(t *testing.T, s *shelf, root string, key string, val string) bool {
	t.Helper()
	for ref := root; ; {
		n, e := node.Decode(s.texts[ref])
		if e != api.OK {
			t.Fatal(e)
		}
		if n.Leaf {
			return node.Check(node.With(n, key, val)) == api.OK
		}
		at, _ := node.Find(n, key)
		ref = n.Vals[at]
	}
}

// keysOf has ways to make keys: few and many, short, long, and those that have
// much in front together.
func keysOf() map[string]func(r *rand.Rand) string {
	return map[string]func(r *rand.Rand) string{
		"short":  func(r *rand.Rand) string { return strconv.Itoa(r.Intn(300)) },
		"bytes":  func(r *rand.Rand) string { return string([]byte{byte(r.Intn(256)), byte(r.Intn(4))}[:1+r.Intn(2)]) },
		"long":   func(r *rand.Rand) string { return strings.Repeat("k", 296) + strconv.Itoa(1000+r.Intn(200)) },
		"any":    func(r *rand.Rand) string { return strings.Repeat(string(rune('a'+r.Intn(9))), 1+r.Intn(300)) },
		"spread": func(r *rand.Rand) string { return strconv.Itoa(r.Intn(300)) + strings.Repeat("k", 297) },
	}
}

func TestAnyChanges(t *testing.T) { // P10.1 to P10.4
	for name, key := range keysOf() {
		for _, wide := range []int{0, 44, 60} {
			t.Run(name+strconv.Itoa(wide), func(t *testing.T) {
				anyChanges(t, rand.New(rand.NewSource(int64(wide))), key, wide)
			})
		}
	}
}

// version is a root, and the pairs that its tree has.
type version struct {
	root string
	want map[string]string
}

func anyChanges(t *testing.T, r *rand.Rand, anyKey func(r *rand.Rand) string, wide int) {
	s := newShelf()
	s.wide = wide
	root, want := "", map[string]string{}
	var older []version
	for i := range 1000 {
		key := anyKey(r)
		shrinks := i/200%2 == 1
		s.puts = 0
		if _, is := want[key]; is && r.Intn(4) > 0 == shrinks {
			root = mustDelete(t, s, root, key)
			delete(want, key)
		} else if is || !shrinks {
			want[key] = strings.Repeat("v", r.Intn(121))
			root = mustPut(t, s, root, key, want[key])
		} else if _, e := Delete(s, root, key); e != api.ErrNone {
			t.Fatalf("%.20q: %d", key, e)
		} else {
			wantGet(t, s, root, key, "", api.ErrNone)
		}
		if s.puts > 41 || (root == "") != (len(want) == 0) {
			t.Fatalf("%d puts, %q, %d pairs", s.puts, root, len(want))
		}
		if i%10 == 0 {
			wantSound(t, s, root)
		}
		if i%50 == 0 {
			older = append(older, version{root, maps.Clone(want)})
			wantScans(t, s, root, want, anyKey(r))
		}
	}
	for _, v := range older {
		wantPairs(t, s, v.root, v.want)
	}
	for _, key := range slices.Sorted(maps.Keys(want)) {
		root = mustDelete(t, s, root, key)
		wantSound(t, s, root)
	}
	if root != "" {
		t.Errorf("without pairs: %q", root)
	}
}

// wantScans asks for what Scan tells from a key on, and for the first ones of it.
func wantScans(t *testing.T, s Store, root string, want map[string]string, key string) {
	t.Helper()
	for _, from := range []string{"", "\x00", key, key + "\x00", key[:len(key)-1], "\xff\xff\xff"} {
		behind := slices.DeleteFunc(sorted(want), func(p Pair) bool { return p.Key < from })
		for _, many := range []int{math.MinInt, -1, 0, 1, 2, 7, 50, len(behind), len(behind) + 1, math.MaxInt} {
			l, e := Scan(s, root, from, many)
			if e != api.OK || !slices.Equal(l, behind[:max(min(many, len(behind)), 0)]) {
				t.Fatalf("%.20q, %d: %d pairs of %d, %d", from, many, len(l), len(behind), e)
			}
		}
	}
}

func TestHeight(t *testing.T) { // P10.2: what is put is a tree, of the longest keys, too
	key := func(i int) string { return strings.Repeat("k", 294) + strconv.Itoa(100000+i) }
	for name, at := range map[string]func(i int) int{
		"rising":  func(i int) int { return i },
		"falling": func(i int) int { return 9999 - i },
		"inward":  func(i int) int { return (i%2*2-1)*(4000-i) + 5000 },
		"outward": func(i int) int { return (i%2*2-1)*i + 5000 },
		"spread":  func(i int) int { return i * 3331 % 10000 },
	} {
		s := newShelf()
		s.wide = 60
		root := ""
		for i := range 4000 {
			s.puts = 0
			root = mustPut(t, s, root, key(at(i)), strings.Repeat("v", 120))
			if s.puts > 41 {
				t.Fatalf("%s: %d puts", name, s.puts)
			}
		}
		if height := wantSound(t, s, root); height > 14 {
			t.Errorf("%s: %d nodes high", name, height)
		}
		for i := range 4000 {
			if i%500 == 0 {
				wantSound(t, s, root)
			}
			root = mustDelete(t, s, root, key(at(i)))
		}
		if root != "" {
			t.Errorf("%s: %q", name, root)
		}
	}
}

func TestHalvesLeadToTwo(t *testing.T) { // P10.2: a long key that is put does not make a node of one entry
	long := strings.Repeat("x", 299)
	ref := func(i int) string { return strings.Repeat("r", 59) + strconv.Itoa(i) }
	s := made(map[string]node.Node{
		"root": inner("a", ref(0), "b"+strings.Repeat("x", 106), ref(1), "d"+long, ref(3)),
		ref(0): leaf("a", ""),
		ref(1): leaf("b"+long, "", "c"+long, "", "c"+long[:298]+"y", strings.Repeat("v", 40)),
		ref(3): leaf("d"+long, ""),
	})
	s.wide = 60
	root := mustPut(t, s, "root", "c"+long[:298]+"z", strings.Repeat("v", 120))
	wantSound(t, s, root)
	n, _ := node.Decode(s.texts[root])
	for _, half := range n.Vals {
		if m, e := node.Decode(s.texts[half]); m.Leaf || len(m.Keys) != 2 || e != api.OK {
			t.Errorf("%v, %d", m, e)
		}
	}
}

func TestRefsThatGrow(t *testing.T) { // P10.2, P10.4: a longer ref is no less a reason to cut
	for _, change := range []func(t *testing.T, s Store, root string, key string, want map[string]string) string{
		func(t *testing.T, s Store, root string, key string, want map[string]string) string {
			delete(want, key)
			return mustDelete(t, s, root, key)
		},
		func(t *testing.T, s Store, root string, key string, want map[string]string) string {
			want[key] = "w"
			return mustPut(t, s, root, key, "w")
		},
	} {
		s := newShelf()
		root, want := "", map[string]string{}
		for i := range 4000 {
			key := strconv.Itoa(10000 + i*13%4000)
			root = mustPut(t, s, root, key, strconv.Itoa(i))
			want[key] = strconv.Itoa(i)
		}
		refs, _ := Refs(s, root)
		s.wide = 60
		for i := range 400 {
			root = change(t, s, root, strconv.Itoa(10000+i*10), want)
			wantSound(t, s, root)
		}
		if now, _ := Refs(s, root); len(now) <= len(refs) {
			t.Errorf("%d nodes, and then %d", len(refs), len(now))
		}
		wantPairs(t, s, root, want)
	}
}

func TestRootOfOneIsLeftOut(t *testing.T) { // P10.2: deletes bring the height down
	s := newShelf()
	root := ""
	for i := range 3000 {
		root = mustPut(t, s, root, strconv.Itoa(10000+i), "value")
	}
	if height := wantSound(t, s, root); height < 3 {
		t.Fatalf("%d", height)
	}
	for i := range 2999 {
		root = mustDelete(t, s, root, strconv.Itoa(12999-i))
	}
	if height := wantSound(t, s, root); height != 1 {
		t.Errorf("%d", height)
	}
	wantPairs(t, s, root, map[string]string{"10000": "value"})
}

// three has a tree by hand: its leaves are not all as deep, and its first keys
// are above what is below them.
func three() map[string]node.Node {
	return map[string]node.Node{
		"root": inner("m", "left", "n", "right", "t", "last"),
		"left": inner("k", "l1", "l", "l2"),
		"l1":   leaf("a", "1", "c", "2"),
		"l2":   leaf("l", "3", "lz", "4"),
		// There is none of n itself.
		"right": leaf("p", "5"),
		"last":  inner("z", "l3"),
		"l3":    leaf("t", "6", "u", ""),
	}
}

func threePairs() map[string]string {
	return map[string]string{"a": "1", "c": "2", "l": "3", "lz": "4", "p": "5", "t": "6", "u": ""}
}

func TestTreeByHand(t *testing.T) { // P10.1 to P10.4
	s := made(three())
	wantPairs(t, s, "root", threePairs())
	for _, key := range []string{"", "A", "b", "k", "lzz", "m", "n", "o", "q", "tt", "z"} {
		wantGet(t, s, "root", key, "", api.ErrNone)
	}
	for _, key := range []string{"", "b", "l", "m", "n", "p", "s", "u", "v"} {
		wantScans(t, s, "root", threePairs(), key+"x")
		wantScans(t, s, "root", threePairs(), key+"\x00")
	}
	if l, e := Refs(s, "root"); !slices.Equal(l, []string{"root", "left", "l1", "l2", "right", "last", "l3"}) || e != api.OK {
		t.Errorf("%v, %d", l, e)
	}
	for _, key := range []string{"\x00", "a", "b", "k", "kk", "m", "n", "o", "q", "tt", "z", "u"} {
		want := threePairs()
		want[key] = "new"
		wantPairs(t, s, mustPut(t, s, "root", key, "new"), want)
		wantSound(t, s, mustPut(t, s, "root", key, "new"))
	}
	for key := range threePairs() {
		want := threePairs()
		delete(want, key)
		wantPairs(t, s, mustDelete(t, s, "root", key), want)
	}
	wantPairs(t, s, "root", threePairs())
}

func TestCutBelowAFirstKey(t *testing.T) { // P10.2: keys below the first one, that are cut in two
	full := node.Node{Leaf: true}
	want := map[string]string{"n": ""}
	for _, key := range []string{"a", "b", "c", "d", "e", "f", "g"} {
		want[key] = strings.Repeat("v", 120)
		full = node.With(full, key, want[key])
	}
	s := made(map[string]node.Node{"root": inner("m", "l1", "n", "l2"), "l1": full, "l2": leaf("n", "")})
	want["h"] = strings.Repeat("w", 120)
	next := mustPut(t, s, "root", "h", want["h"])
	wantPairs(t, s, next, want)
	if refs, _ := Refs(s, next); len(refs) != 4 || wantSound(t, s, next) != 2 {
		t.Errorf("%v", refs)
	}

	s = made(three())
	root, want := "root", threePairs()
	for i := range 300 {
		key := []string{"", "b", "d", "mm", "tt"}[i%5] + strconv.Itoa(i*77%1000)
		want[key] = strings.Repeat("v", 50)
		root = mustPut(t, s, root, key, want[key])
		wantSound(t, s, root)
	}
	wantPairs(t, s, root, want)
	wantPairs(t, s, "root", threePairs())
}

func TestEmptyLeaf(t *testing.T) { // P10.1 to P10.3: a leaf without entries is a tree without pairs
	s := made(map[string]node.Node{"root": {Leaf: true}})
	wantPairs(t, s, "root", nil)
	wantGet(t, s, "root", "a", "", api.ErrNone)
	if root, e := Delete(s, "root", "a"); root != "" || e != api.ErrNone {
		t.Errorf("%q, %d", root, e)
	}
	if l, e := Refs(s, "root"); !slices.Equal(l, []string{"root"}) || e != api.OK {
		t.Errorf("%v, %d", l, e)
	}
	wantPairs(t, s, mustPut(t, s, "root", "a", "1"), map[string]string{"a": "1"})
}

// askAll asks all five calls of root, and wants each to tell that error.
func askAll(t *testing.T, name string, s Store, root string, want api.Errno) {
	t.Helper()
	if v, e := Get(s, root, "a"); v != "" || e != want {
		t.Errorf("%s: get: %q, %d", name, v, e)
	}
	if r, e := Put(s, root, "a", "1"); r != "" || e != want {
		t.Errorf("%s: put: %q, %d", name, r, e)
	}
	if r, e := Delete(s, root, "a"); r != "" || e != want {
		t.Errorf("%s: delete: %q, %d", name, r, e)
	}
	if l, e := Scan(s, root, "", 9); len(l) != 0 || e != want {
		t.Errorf("%s: scan: %v, %d", name, l, e)
	}
	if l, e := Refs(s, root); len(l) != 0 || e != want {
		t.Errorf("%s: refs: %v, %d", name, l, e)
	}
}

// broken is a store that panics, as a shelf that is nil does.
type broken struct{}

func (broken) Get(ref string) (string, api.Errno)  { panic("broken") }
func (broken) Put(text string) (string, api.Errno) { panic("broken") }

// odd is a store that tells a ref that is none.
type odd struct {
	*shelf
	ref string
}

func (s odd) Put(text string) (string, api.Errno) { return s.ref, api.OK }

func TestNoStore(t *testing.T) { // P10.1 to P10.3, R1
	for _, root := range []string{"", "root"} {
		askAll(t, "nil", nil, root, api.ErrArg)
	}
	if _, e := Scan(nil, "", "", 0); e != api.ErrArg {
		t.Errorf("%d", e)
	}
	var none *shelf
	askAll(t, "a shelf that is nil", none, "root", api.ErrArg)
	askAll(t, "broken", broken{}, "root", api.ErrArg)
	for _, ref := range []string{"", strings.Repeat("r", 121)} {
		s := odd{made(three()), ref}
		if r, e := Put(s, "root", "a", "1"); r != "" || e != api.ErrArg {
			t.Errorf("%q, %d", r, e)
		}
		if r, e := Put(s, "", "a", "1"); r != "" || e != api.ErrArg {
			t.Errorf("%q, %d", r, e)
		}
	}
	if r, e := Put(broken{}, "", "a", "1"); r != "" || e != api.ErrArg {
		t.Errorf("%q, %d", r, e)
	}
}

func TestNoTree(t *testing.T) { // the chapter's words
	large := "L\x04" // 974 bytes
	for _, c := range "abcd" {
		large += "\xf0\x00" + strings.Repeat(string(c), 240) + "\x00"
	}
	for name, text := range map[string]string{
		"nothing": "", "junk": "junk", "cut": "L\x01\x01\x00", "a byte more": "L\x00x", "no entry": "I\x00",
		"no mark": "X\x01\x01\x00a\x011", "no order": "L\x02\x01\x00b\x00\x01\x00a\x00", "too large": large,
	} {
		s := newShelf()
		s.texts["root"] = text
		askAll(t, name, s, "root", api.ErrForm)
		s.texts["top"] = "I\x01\x01\x00a\x04root"
		askAll(t, name+", below", s, "top", api.ErrForm)
		if s.puts != 0 {
			t.Errorf("%s: something is put", name)
		}
	}
	askAll(t, "no such ref", newShelf(), "root", api.ErrLost)
}

// wantTold asks of all five calls the error, if any of what they need is lost.
func wantTold(t *testing.T, s *shelf, lost string, key string) {
	t.Helper()
	for name, call := range map[string]func() (bool, api.Errno){
		"get":    func() (bool, api.Errno) { v, e := Get(s, "root", key); return v == "", e },
		"put":    func() (bool, api.Errno) { r, e := Put(s, "root", key, "1"); return r == "", e },
		"delete": func() (bool, api.Errno) { r, e := Delete(s, "root", key); return r == "", e },
		"scan":   func() (bool, api.Errno) { l, e := Scan(s, "root", key, 1); return len(l) == 0, e },
		"refs":   func() (bool, api.Errno) { l, e := Refs(s, "root"); return len(l) == 0, e },
	} {
		s.lost, s.gets, s.puts = lost, nil, 0
		none, e := call()
		needs := slices.Contains(s.gets, lost)
		if needs != (e == api.ErrLost) || needs && (!none || s.puts > 0 || s.gets[len(s.gets)-1] != lost) {
			t.Errorf("%s of %q without %q: %d, %v, %d puts", name, key, lost, e, s.gets, s.puts)
		}
	}
	s.lost = ""
}

func TestLost(t *testing.T) { // P10.1 to P10.3: what is not needed may be lost
	s := made(three())
	for lost := range three() {
		for key := range threePairs() {
			wantTold(t, s, lost, key)
		}
	}
	for key, way := range map[string][]string{
		"a": {"root", "left", "l1"}, "lz": {"root", "left", "l2"}, "p": {"root", "right"}, "t": {"root", "last", "l3"},
	} {
		for _, call := range []func(){
			func() { Get(s, "root", key) }, func() { Put(s, "root", key, "") }, func() { Delete(s, "root", key) }, func() { Scan(s, "root", key, 1) },
		} {
			s.gets = nil
			if call(); !slices.Equal(s.gets, way) {
				t.Errorf("%q: %v is read, not %v", key, s.gets, way)
			}
		}
	}
}

func TestScanReadsNoMore(t *testing.T) { // P10.3: what is behind the last pair that is asked for may be lost
	s := made(three())
	for _, c := range []struct {
		from string
		many int
		read []string
	}{
		{"", 2, []string{"root", "left", "l1"}},
		{"", 3, []string{"root", "left", "l1", "l2"}},
		{"b", 1, []string{"root", "left", "l1"}},
		{"d", 1, []string{"root", "left", "l1", "l2"}},
		{"l", 2, []string{"root", "left", "l2"}},
		{"n", 1, []string{"root", "right"}},
		{"p", 2, []string{"root", "right", "last", "l3"}},
		{"q", 9, []string{"root", "right", "last", "l3"}},
		{"z", 9, []string{"root", "last", "l3"}},
		{"", 0, nil},
		{"", -1, nil},
	} {
		s.gets = nil
		if _, e := Scan(s, "root", c.from, c.many); e != api.OK || !slices.Equal(s.gets, c.read) {
			t.Errorf("%q, %d: %v, %d", c.from, c.many, s.gets, e)
		}
	}
}

func TestFull(t *testing.T) { // P10.2, P10.4: an error, at whichever Put, changes nothing
	s := newShelf()
	root, want := "", map[string]string{}
	for i := range 60 {
		key := strings.Repeat("k", 250) + strconv.Itoa(100+i)
		want[key] = strconv.Itoa(i)
		root = mustPut(t, s, root, key, want[key])
	}
	key := strings.Repeat("k", 250) + "1595"
	for _, change := range []func() (string, api.Errno){
		func() (string, api.Errno) { return Put(s, root, key, strings.Repeat("v", 120)) },
		func() (string, api.Errno) { return Delete(s, root, key[:len(key)-1]) },
	} {
		s.puts, s.room = 0, math.MaxInt
		if _, e := change(); e != api.OK || s.puts < 3 {
			t.Fatalf("%d, %d puts", e, s.puts)
		}
		for room := range s.puts {
			s.room = room
			if next, e := change(); next != "" || e != api.ErrFull {
				t.Errorf("%d: %q, %d", room, next, e)
			}
			wantPairs(t, s, root, want)
		}
		s.room = s.puts
	}
	s.room = 0
	if next, e := Put(s, "", "a", "1"); next != "" || e != api.ErrFull {
		t.Errorf("%q, %d", next, e)
	}
}

func TestTwice(t *testing.T) { // the chapter's words: a ref that a Scan, or Refs, comes to twice
	s := made(map[string]node.Node{
		"root": inner("a", "l1", "c", "l2", "e", "l1"),
		"l1":   leaf("a", "1", "b", "2"),
		"l2":   leaf("c", "3", "d", "4"),
		"deep": inner("a", "root", "x", "l3"),
		"l3":   leaf("x", "5"),
	})
	for _, root := range []string{"root", "deep"} {
		if l, e := Refs(s, root); len(l) != 0 || e != api.ErrForm {
			t.Errorf("%v, %d", l, e)
		}
		for _, many := range []int{5, math.MaxInt} {
			if l, e := Scan(s, root, "", many); len(l) != 0 || e != api.ErrForm {
				t.Errorf("%d: %v, %d", many, l, e)
			}
		}
		for from, many := range map[string]int{"": 4, "a": 1, "b": 3, "c": 2} {
			if l, e := Scan(s, root, from, many); len(l) != many || e != api.OK {
				t.Errorf("%q: %v, %d", from, l, e)
			}
		}
		wantGet(t, s, root, "d", "4", api.OK)
	}
}

// chain has a tree that is so high, of nodes of one entry, and its root.
func chain(height int) (*shelf, string) {
	nodes := map[string]node.Node{"n1": leaf("a", "1", "b", "2")}
	for i := 2; i <= height; i++ {
		nodes["n"+strconv.Itoa(i)] = inner("a", "n"+strconv.Itoa(i-1))
	}
	return made(nodes), "n" + strconv.Itoa(height)
}

func TestTooHigh(t *testing.T) { // the chapter's words
	for _, height := range []int{1, 2, 19, 20} {
		s, root := chain(height)
		wantPairs(t, s, root, map[string]string{"a": "1", "b": "2"})
		if l, e := Refs(s, root); len(l) != height || e != api.OK {
			t.Errorf("%d: %v, %d", height, l, e)
		}
		wantPairs(t, s, mustPut(t, s, root, "c", "3"), map[string]string{"a": "1", "b": "2", "c": "3"})
		wantPairs(t, s, mustDelete(t, s, root, "a"), map[string]string{"b": "2"})
		if last := mustDelete(t, s, mustDelete(t, s, root, "a"), "b"); last != "" {
			t.Errorf("%d: %q", height, last)
		}
	}
	for _, height := range []int{21, 22, 100} {
		s, root := chain(height)
		askAll(t, strconv.Itoa(height), s, root, api.ErrForm)
	}
	s := made(map[string]node.Node{"round": inner("a", "round")})
	askAll(t, "round", s, "round", api.ErrForm)
}

func TestPutTooHigh(t *testing.T) { // P10.2: 20 nodes that are full are not made 21
	for _, height := range []int{19, 20} {
		s, root := fullTree(height)
		before, _ := Refs(s, root)
		next, e := Put(s, root, "a3", strings.Repeat("v", 120))
		if height == 20 {
			if next != "" || e != api.ErrForm {
				t.Errorf("%q, %d", next, e)
			}
		} else if e != api.OK || wantSound(t, s, next) != 20 {
			t.Errorf("%d", e)
		}
		if now, e := Refs(s, root); !slices.Equal(now, before) || e != api.OK {
			t.Errorf("%d nodes, and then %d, %d", len(before), len(now), e)
		}
	}
}

// fullTree has a tree of that height, and its root; on the way to its first
// leaf no node has room for another entry.
func fullTree(height int) (*shelf, string) {
	long := strings.Repeat("k", 290)
	root := "n1"
	nodes := map[string]node.Node{root: leaf("a1"+long, "", "a2"+long, "", "a4"+long, strings.Repeat("v", 60))}
	for i := 2; i <= height; i++ {
		n := inner("a", root)
		for j := range 8 {
			key := strconv.Itoa(i*10 + j + 100)
			n = node.With(n, "b"+key+strings.Repeat("k", 96), "side"+key)
			nodes["side"+key] = leaf("b"+key+strings.Repeat("k", 97), "")
		}
		root = "n" + strconv.Itoa(i)
		nodes[root] = n
	}
	s := made(nodes)
	s.wide = 60
	return s, root
}
