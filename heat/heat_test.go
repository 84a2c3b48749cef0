package heat

import (
	"math"
	"math/rand"
	"slices"
	"strconv"
	"testing"
)

// P12.1
func TestNew(t *testing.T) {
	for i, h := range []*Heat{nil, {}, New()} {
		for _, now := range []int{math.MinInt, -1, 0, 1, math.MaxInt} {
			if h.Value("", now) != 0 || h.Value("a", now) != 0 || len(h.Hot(now, 9)) > 0 {
				t.Errorf("%d: a key is worth something at %d", i, now)
			}
		}
		h.Forget("a")
		if h.Len() != 0 {
			t.Errorf("%d: %d keys", i, h.Len())
		}
	}
}

// P12.1, P12.2: a nil Heat has no key, whatever is touched; any other has.
func TestNothing(t *testing.T) {
	for i, h := range []*Heat{nil, {}, New()} {
		h.Touch("a", 3)
		if want := min(i, 1); h.Value("a", 3) != 16*want || h.Len() != want || len(h.Hot(3, 1)) != want {
			t.Errorf("%d: %d, %d keys", i, h.Value("a", 3), h.Len())
		}
	}
}

type touch struct {
	key string
	now int
}

// touched has been touched so.
func touched(all ...touch) *Heat {
	h := New()
	for _, one := range all {
		h.Touch(one.key, one.now)
	}
	return h
}

// P12.1
func TestValue(t *testing.T) {
	h := touched(touch{"a", 0}, touch{"b", 7}, touch{"b", 7}, touch{"", 4},
		touch{"least", math.MinInt}, touch{"most", math.MaxInt})
	for _, c := range []struct {
		key       string
		now, want int
	}{
		{"a", 0, 16}, {"a", 1, 8}, {"a", 2, 4}, {"a", 4, 1}, {"a", 5, 0}, // the document's example
		{"a", 30, 0}, {"a", 64, 0}, {"a", 65, 0}, {"a", 1 << 32, 0}, {"a", math.MaxInt, 0},
		{"a", -1, 16}, {"a", math.MinInt, 16},
		{"b", 7, 32}, {"b", 6, 32}, {"b", 8, 16}, {"b", 12, 1}, {"b", 13, 0},
		{"", 4, 16}, {"", 5, 8},
		{"least", math.MinInt, 16}, {"least", math.MinInt + 1, 8}, {"least", 0, 0}, {"least", math.MaxInt, 0},
		{"most", math.MaxInt, 16}, {"most", 0, 16}, {"most", math.MinInt, 16},
		{"c", 0, 0}, {"A", 0, 0},
	} {
		if n := h.Value(c.key, c.now); n != c.want {
			t.Errorf("Value(%q, %d): %d, want %d", c.key, c.now, n, c.want)
		}
	}
	if h.Len() != 5 {
		t.Errorf("%d keys", h.Len()) // that a value is asked adds none
	}
}

// P12.2
func TestTouch(t *testing.T) {
	for i, c := range []struct {
		ticks     []int
		now, want int
	}{
		{[]int{5}, 5, 16},
		{[]int{5, 5}, 5, 32},
		{[]int{5, 6}, 6, 24},          // 16 fades to 8
		{[]int{5, 6, 7}, 7, 28},       // 24 to 12
		{[]int{5, 6, 7, 8}, 8, 30},    //
		{[]int{5, 10}, 10, 16},        // to 0
		{[]int{5, 5, 5, 7}, 7, 28},    // 48 to 12
		{[]int{5, 6, 6, 6, 7}, 7, 44}, // 56 to 28
		{[]int{5, 7, 8}, 8, 26},       // 20 to 10
		{[]int{5, 4}, 5, 32},          // the tick stays 5 ..
		{[]int{5, 4}, 6, 16},          // ..
		{[]int{5, 4, 6}, 6, 32},       // ..
		{[]int{5, math.MinInt}, 6, 16},
		{[]int{0, math.MaxInt}, math.MaxInt, 16},
		{[]int{0, math.MaxInt, 1}, math.MaxInt, 32},
		{[]int{math.MinInt, math.MaxInt}, 0, 16},
		{[]int{-3}, -2, 8}, // the tick of a key that was not touched is no 0
	} {
		h := New()
		for _, now := range c.ticks {
			h.Touch("other", now)
			h.Touch("a", now)
		}
		if n := h.Value("a", c.now); n != c.want || h.Value("other", c.now) != n || h.Len() != 2 {
			t.Errorf("%d: %v, at %d: %d, want %d", i, c.ticks, c.now, n, c.want)
		}
	}
}

// P12.2
func TestTouchMost(t *testing.T) {
	h := New()
	for i := range 1<<16 + 5 {
		h.Touch("a", 9)
		if n := h.Value("a", 9); n != min(16*(i+1), 1<<20) {
			t.Fatalf("%d times: %d", i+1, n)
		}
	}
	for i := 0; i <= 64; i++ {
		if n := h.Value("a", 9+i); n != 1<<20>>i {
			t.Errorf("%d ticks: %d", i, n)
		}
	}
	h.Touch("a", 10)
	if n := h.Value("a", 10); n != 1<<19+16 {
		t.Error(n)
	}
}

// P12.2
func TestForget(t *testing.T) {
	h := touched(touch{"a", 5}, touch{"b", 5}, touch{"a", 5})
	h.Forget("c")
	h.Forget("")
	if h.Len() != 2 {
		t.Errorf("%d keys", h.Len())
	}
	h.Forget("a")
	if h.Len() != 1 || h.Value("a", 5) != 0 || h.Value("b", 5) != 16 || !slices.Equal(h.Hot(5, 9), []string{"b"}) {
		t.Errorf("%d keys: %v", h.Len(), h.Hot(5, 9))
	}
	h.Touch("a", 3)
	if h.Value("a", 3) != 16 || h.Value("a", 4) != 8 { // neither the count nor the tick is there any more
		t.Errorf("%d, %d", h.Value("a", 3), h.Value("a", 4))
	}
}

// P12.3
func TestHot(t *testing.T) {
	h := touched(touch{"c", 3}, touch{"c", 3}, touch{"b", 3}, touch{"a", 2}, touch{"aa", 3}, touch{"\xff", 3},
		touch{"", 3}, touch{"B", 3}, touch{"old", -9}, touch{"later", 5}, touch{"later", 5}, touch{"later", 5})
	all := []string{"later", "c", "", "B", "aa", "b", "\xff", "a"}
	for i, c := range []struct {
		now, n int
		want   []string
	}{
		{3, 8, all}, {3, 9, all}, {3, math.MaxInt, all}, {3, 7, all[:7]}, {3, 5, all[:5]}, {3, 2, all[:2]}, {3, 1, all[:1]},
		{3, 0, nil}, {3, -1, nil}, {3, math.MinInt, nil},
		{7, 9, []string{"later", "c", "", "B", "aa", "b", "\xff"}},
		{8, 9, []string{"later", "c"}},
		{9, 9, []string{"later"}}, {10, 9, []string{"later"}}, {11, 9, nil}, {math.MaxInt, 9, nil},
		{-9, 9, []string{"later", "c", "", "B", "a", "aa", "b", "old", "\xff"}},
		{math.MinInt, 3, []string{"later", "c", ""}},
	} {
		for range 3 { // it is the same again, however the map is gone through
			if hot := h.Hot(c.now, c.n); !slices.Equal(hot, c.want) {
				t.Errorf("%d: Hot(%d, %d): %q, want %q", i, c.now, c.n, hot, c.want)
			}
		}
	}
	if h.Len() != 9 {
		t.Errorf("%d keys", h.Len())
	}
}

// P12.3: what is answered is new memory.
func TestHotShares(t *testing.T) {
	h := touched(touch{"a", 1}, touch{"b", 1})
	hot := h.Hot(1, 9)
	hot[0], hot[1] = "harm", "harm"
	h.Touch("c", 1)
	if again := h.Hot(1, 9); !slices.Equal(again, []string{"a", "b", "c"}) || hot[0] != "harm" {
		t.Errorf("%q, %q", again, hot)
	}
}

// plain counts by halves, one at a time.
type plain struct{ count, tick int }

func (p plain) worth(now int) int {
	n := p.count
	for i := p.tick; i < now; i++ {
		n /= 2
	}
	return n
}

// P12.1, P12.2, P12.3
func TestAgainstPlain(t *testing.T) {
	r := rand.New(rand.NewSource(12))
	for _, wide := range []int{1, 2, 5, 40, 300} {
		h := New()
		all := map[string]plain{}
		now := 0
		for range 4000 {
			key := strconv.Itoa(r.Intn(wide))
			now += max(0, r.Intn(12)-10)
			at := now + r.Intn(9) - 4
			switch r.Intn(20) {
			case 0:
				h.Forget(key)
				delete(all, key)
			case 1:
				checkHot(t, h, all, at, r.Intn(wide+2))
			default:
				one, is := all[key]
				if !is {
					one.tick = at
				}
				all[key] = plain{min(1<<20, one.worth(at)+16), max(one.tick, at)}
				h.Touch(key, at)
			}
			if n := h.Value(key, at); n != all[key].worth(at) || h.Len() != len(all) {
				t.Fatalf("%s at %d: %d, want %d; %d keys", key, at, n, all[key].worth(at), h.Len())
			}
		}
	}
}

func checkHot(t *testing.T, h *Heat, all map[string]plain, now, n int) {
	t.Helper()
	var want []string
	for key, one := range all {
		if one.worth(now) > 0 {
			want = append(want, key)
		}
	}
	slices.Sort(want)
	slices.SortStableFunc(want, func(a, b string) int { return all[b].worth(now) - all[a].worth(now) })
	if hot := h.Hot(now, n); !slices.Equal(hot, want[:min(n, len(want))]) {
		t.Fatalf("Hot(%d, %d): %q, want %q", now, n, hot, want)
	}
}

// P12.4
func TestFades(t *testing.T) {
	r := rand.New(rand.NewSource(4))
	h := New()
	for range 20000 {
		at := r.Intn(40) - 20
		before := h.Value("a", at)
		h.Touch("a", at)
		for now := -20; now < 60; now++ {
			if h.Value("a", now) < h.Value("a", now+1) {
				t.Fatalf("it is worth more at %d", now+1)
			}
		}
		if h.Value("a", at) < before {
			t.Fatalf("touched at %d, it is worth less", at)
		}
		if r.Intn(30) == 0 {
			h.Forget("a")
		}
	}
}
