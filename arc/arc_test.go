package arc

import (
	"math"
	"math/rand"
	"slices"
	"strconv"
	"strings"
	"testing"

	"permafrost/api"
)

// told is all that an Arc tells of itself, as one text.
func told(a *Arc) string {
	t1, t2, b1, b2 := a.Lists()
	var s []string
	for _, l := range [][]string{t1, t2, b1, b2} {
		s = append(s, strings.Join(l, " "))
	}
	return strings.Join(s, "|") + " " + strconv.Itoa(a.Target())
}

// asked asks for a letter each, but drops one behind a -; it answers the keys
// that left.
func asked(a *Arc, keys string) string {
	left := ""
	for i := 0; i < len(keys); i++ {
		if keys[i] == '-' {
			i++
			a.Drop(keys[i : i+1])
			continue
		}
		_, out := a.Ask(keys[i : i+1])
		left += out
	}
	return left
}

// P11.1
func TestNew(t *testing.T) {
	for _, size := range []int{math.MinInt, -1, 0, api.MaxArc + 1, math.MaxInt} {
		if New(size) != nil {
			t.Errorf("New(%d) is an Arc", size)
		}
	}
	for size := 1; size <= api.MaxArc; size++ {
		a := New(size)
		if a == nil || told(a) != "||| 0" || a.Has("") || a.Has("a") {
			t.Errorf("New(%d): %s", size, told(a))
		}
	}
}

// P11.1, P11.2, P11.3
func TestNothing(t *testing.T) {
	for i, a := range []*Arc{nil, {}} {
		for _, key := range []string{"", "a", "a"} {
			if hit, left := a.Ask(key); hit || left != "" {
				t.Errorf("%d: Ask(%q): %v, %q", i, key, hit, left)
			}
			if a.Has(key) || a.Drop(key) {
				t.Errorf("%d: %q is kept", i, key)
			}
		}
		t1, t2, b1, b2 := a.Lists()
		if len(t1)+len(t2)+len(b1)+len(b2) > 0 || a.Target() != 0 {
			t.Errorf("%d: %s", i, told(a))
		}
	}
}

// P11.2
func TestAsk(t *testing.T) {
	for _, c := range []struct {
		size       int
		keys       string
		want, left string
	}{
		{1, "a", "a||| 0", ""},
		{1, "ab", "b||| 0", "a"}, // the document's example: T1 is full, so that a is forgotten
		{1, "aa", "|a|| 0", ""},
		{1, "aab", "b|||a 0", "a"},
		{1, "aaba", "|a|b| 0", "ab"},
		{1, "aabaa", "|a|b| 0", "ab"},
		{1, "aabb", "|b||a 0", "a"},
		{3, "abc", "a b c||| 0", ""},                         // less than c: all is kept
		{3, "abca", "b c|a|| 0", ""},                         // case 1, from T1
		{3, "abcaba", "c|b a|| 0", ""},                       // case 1, from T2: to its end
		{3, "abcd", "b c d||| 0", "a"},                       // case 4, T1 is full: a is in no list
		{3, "aabcd", "c d|a|b| 0", "b"},                      // case 4, all are c: b goes to B1
		{3, "aabcde", "d e|a|c| 0", "bc"},                    // case 4, T1 and B1 are c: b is forgotten
		{2, "aabcb", "c|b||a 1", "ba"},                       // case 2: T1 has no more than p, so that T2 gives
		{2, "aabcba", "|b a|c| 0", "bac"},                    // case 3: T1 has more than p
		{2, "aabbc", "c|b||a 0", "a"},                        // T1 is empty, so that T2 gives
		{2, "aabbcd", "d|b|c|a 0", "ac"},                     // T1 has more than p
		{2, "aabbcddc", "|d c||a b 1", "acb"},                // case 2, T1 is empty
		{2, "aabbcddce", "e|c||b d 1", "acbd"},               // case 4, all are 2 times c: a is forgotten
		{3, "aabbccdeefd", "f|e d||a b c 2", "adbc"},         // case 2: p rises by 2, as B2 is twice B1
		{3, "aabbccdeefda", "|e d a|f|b c 1", "adbcf"},       // case 3: p falls by 1; T1 has p, and gives
		{3, "aabbccdeefdaf", "|d a f||b c e 3", "adbcfe"},    // case 2: p rises up to c
		{3, "aabbccdeefdafg", "g|a f||c e d 3", "adbcfed"},   // case 4: T1 may have p, so that T2 gives
		{3, "aabbccdeefdafgc", "g|f c||e d a 2", "adbcfeda"}, // case 3: T1 has less than p
		{2, "aabcb-bd", "d||c|a 1", "bac"},                   // T2 is empty: T1 gives, though it has no more than p
		{2, "aabcb-bd-de", "e||c|a 1", "bac"},                // nothing is kept: nothing leaves
		{1, "aaba-ac", "c||| 0", "ab"},                       // nor here, where b is forgotten
	} {
		a := New(c.size)
		if left := asked(a, c.keys); told(a) != c.want || left != c.left {
			t.Errorf("%d, %s: %s, %s left; want %s, %s", c.size, c.keys, told(a), left, c.want, c.left)
		}
	}
}

// P11.2
func TestAskNothing(t *testing.T) {
	a := New(3)
	asked(a, "aabcd")
	was := told(a)
	for range 3 {
		if hit, left := a.Ask(""); hit || left != "" || a.Has("") || a.Drop("") || told(a) != was {
			t.Errorf("%v, %q: %s, was %s", hit, left, told(a), was)
		}
	}
}

// P11.3
func TestDrop(t *testing.T) {
	for _, c := range []struct {
		key  string
		kept bool
		want string
	}{
		{"f", true, "|e d||a b c 2"}, {"e", true, "f|d||a b c 2"}, {"d", true, "f|e||a b c 2"},
		{"a", false, "f|e d||b c 2"}, {"b", false, "f|e d||a c 2"}, {"c", false, "f|e d||a b 2"},
		{"z", false, "f|e d||a b c 2"}, {"", false, "f|e d||a b c 2"},
	} {
		a := New(3)
		asked(a, "aabbccdeefd")
		if kept := a.Drop(c.key); kept != c.kept || told(a) != c.want {
			t.Errorf("%q: %v, %s", c.key, kept, told(a))
		}
		if a.Drop(c.key) || a.Has(c.key) || told(a) != c.want {
			t.Errorf("%q again: %s", c.key, told(a))
		}
	}
	a := New(3)
	asked(a, "aabcd")
	if a.Drop("b") || told(a) != "c d|a|| 0" { // from B1
		t.Error(told(a))
	}
}

// P11.1: what is answered is new memory.
func TestListsShareNothing(t *testing.T) {
	a := New(3)
	asked(a, "aabbccde") // each list has a key
	was := told(a)
	t1, t2, b1, b2 := a.Lists()
	for _, l := range [][]string{t1, t2, b1, b2} {
		for i := range l {
			l[i] = "harm"
		}
		_ = append(l, "harm")
	}
	if told(a) != was {
		t.Errorf("%s, was %s", told(a), was)
	}
	one := New(2)
	one.Ask("a")
	first, _, _, _ := one.Lists()
	asked(one, "bcd")
	if !slices.Equal(first, []string{"a"}) {
		t.Error(first)
	}
}

const (
	inT1 = iota
	inT2
	inB1
	inB2
)

// plain does what the document says by a list's number, and a time, for each
// key.
type plain struct {
	size, target, time int
	list               map[string]int
	since              map[string]int
}

func (p *plain) count(list int) int {
	n := 0
	for _, l := range p.list {
		if l == list {
			n++
		}
	}
	return n
}

func (p *plain) all(list int) []string {
	var keys []string
	for key, l := range p.list {
		if l == list {
			keys = append(keys, key)
		}
	}
	slices.SortFunc(keys, func(a, b string) int { return p.since[a] - p.since[b] })
	return keys
}

func (p *plain) put(key string, list int) {
	p.time++
	p.list[key], p.since[key] = list, p.time
}

func (p *plain) room(even bool) string {
	n := p.count(inT1)
	if n > 0 && (n > p.target || even && n == p.target || p.count(inT2) == 0) {
		key := p.all(inT1)[0]
		p.put(key, inB1)
		return key
	}
	if p.count(inT2) > 0 {
		key := p.all(inT2)[0]
		p.put(key, inB2)
		return key
	}
	return ""
}

func (p *plain) ask(key string) (bool, string) {
	t1, t2, b1, b2 := p.count(inT1), p.count(inT2), p.count(inB1), p.count(inB2)
	at, is := p.list[key]
	left := ""
	switch {
	case is && (at == inT1 || at == inT2):
		p.put(key, inT2)
		return true, ""
	case is && at == inB1:
		p.target = min(p.size, p.target+max(1, b2/b1))
		left = p.room(false)
		p.put(key, inT2)
		return false, left
	case is:
		p.target = max(0, p.target-max(1, b1/b2))
		left = p.room(true)
		p.put(key, inT2)
		return false, left
	case t1+b1 == p.size && t1 < p.size:
		delete(p.list, p.all(inB1)[0])
		left = p.room(false)
	case t1+b1 == p.size:
		left = p.all(inT1)[0]
		delete(p.list, left)
	case t1+t2+b1+b2 >= p.size:
		if t1+t2+b1+b2 == 2*p.size {
			delete(p.list, p.all(inB2)[0])
		}
		left = p.room(false)
	}
	p.put(key, inT1)
	return false, left
}

func (p *plain) told() string {
	var s []string
	for list := range 4 {
		s = append(s, strings.Join(p.all(list), " "))
	}
	return strings.Join(s, "|") + " " + strconv.Itoa(p.target)
}

// checkBounds looks at what P11.4 says that follows.
func checkBounds(t *testing.T, a *Arc, size int) {
	t1, t2, b1, b2 := a.Lists()
	all := slices.Concat(t1, t2, b1, b2)
	if len(t1)+len(t2) > size || len(all) > 2*size || a.Target() < 0 || a.Target() > size {
		t.Fatalf("size %d: %s", size, told(a))
	}
	slices.Sort(all)
	if len(slices.Compact(all)) < len(t1)+len(t2)+len(b1)+len(b2) {
		t.Fatalf("size %d: a key is in two: %s", size, told(a))
	}
}

// P11.2, P11.3, P11.4
func TestAgainstPlain(t *testing.T) {
	r := rand.New(rand.NewSource(11))
	for _, size := range []int{1, 2, 3, 4, 5, 7, 8, 16, 63, 64} {
		for _, drops := range []int{0, 30, 3} { // none; one in so many
			a := New(size)
			p := &plain{size: size, list: map[string]int{}, since: map[string]int{}}
			wide := 1
			for step := range 3000 {
				if step%100 == 0 {
					wide = 1 + r.Intn(4*size)
				}
				key := strconv.Itoa(r.Intn(wide))
				if r.Intn(2) == 0 {
					key = strconv.Itoa(step - r.Intn(size+1)) // what is new, or was lately
				}
				at, is := p.list[key]
				kept := is && at <= inT2
				if a.Has(key) != kept {
					t.Fatalf("size %d, step %d: Has(%s)", size, step, key)
				}
				if drops > 0 && r.Intn(drops) == 0 {
					delete(p.list, key)
					if a.Drop(key) != kept {
						t.Fatalf("size %d, step %d: Drop(%s)", size, step, key)
					}
				} else {
					hit, left := a.Ask(key)
					if h, l := p.ask(key); h != hit || l != left || !a.Has(key) || left != "" && a.Has(left) {
						t.Fatalf("size %d, step %d: Ask(%s): %v, %q", size, step, key, hit, left)
					}
				}
				if told(a) != p.told() {
					t.Fatalf("size %d, step %d: %s\nwant %s", size, step, told(a), p.told())
				}
				checkBounds(t, a, size)
			}
		}
	}
}

// P11.4: whatever is asked and dropped, of a few keys in all orders.
func TestAllOrders(t *testing.T) {
	steps := []string{"a", "b", "c", "d", "-a", "-b", "-d"}
	var walk func(size int, keys string, depth int)
	walk = func(size int, keys string, depth int) {
		a := New(size)
		asked(a, keys)
		checkBounds(t, a, size)
		if depth == 0 {
			return
		}
		for _, s := range steps {
			walk(size, keys+s, depth-1)
		}
	}
	for size := 1; size <= 2; size++ {
		walk(size, "", 6)
	}
}
