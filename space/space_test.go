package space

import (
	"math"
	"math/rand"
	"slices"
	"testing"
)

const top = 1 << 30

// three has room ahead of it, between its runs, and behind it.
func three() []Run { return []Run{{At: 2, N: 3}, {At: 7, N: 1}, {At: 10, N: 5}} }

// wrong has lists that may not be, for one reason each.
func wrong() map[string][]Run {
	return map[string][]Run{
		"At -1":                  {{At: -1, N: 3}},
		"At the least":           {{At: math.MinInt, N: 1}},
		"At -1, behind a run":    {{At: 0, N: 1}, {At: -1, N: 1}},
		"N 0":                    {{At: 3, N: 0}},
		"N 0, behind a run":      {{At: 0, N: 1}, {At: 3, N: 0}},
		"N -1":                   {{At: 3, N: -1}},
		"N the least":            {{At: 3, N: math.MinInt}},
		"touch":                  {{At: 0, N: 3}, {At: 3, N: 1}},
		"touch, further on":      {{At: 0, N: 1}, {At: 2, N: 3}, {At: 5, N: 1}},
		"one within another":     {{At: 0, N: 9}, {At: 3, N: 1}},
		"meet":                   {{At: 0, N: 4}, {At: 3, N: 4}},
		"one twice":              {{At: 4, N: 2}, {At: 4, N: 2}},
		"falling":                {{At: 5, N: 1}, {At: 1, N: 1}},
		"falling, and touch":     {{At: 5, N: 1}, {At: 4, N: 1}},
		"end above":              {{At: top, N: 1}},
		"end above, by N":        {{At: 0, N: top + 1}},
		"end above, by both":     {{At: top - 1, N: 2}},
		"end above, last":        {{At: 0, N: 3}, {At: 4, N: top - 3}},
		"end above, first":       {{At: 0, N: top + 1}, {At: top + 2, N: 1}},
		"At above":               {{At: top + 1, N: 1}},
		"At greatest":            {{At: math.MaxInt, N: 1}},
		"N greatest":             {{At: 1, N: math.MaxInt}},
		"both greatest":          {{At: math.MaxInt, N: math.MaxInt}},
		"end wraps round":        {{At: math.MaxInt, N: math.MaxInt}, {At: 3, N: 1}},
		"end greatest, then one": {{At: 0, N: math.MaxInt}, {At: 1, N: 1}},
	}
}

func TestMay(t *testing.T) { // P7.1
	for i, l := range [][]Run{
		nil, {}, {{At: 0, N: 1}}, {{At: 0, N: 1}, {At: 2, N: 1}}, three(),
		{{At: 0, N: top}}, {{At: 1, N: top - 1}}, {{At: top - 1, N: 1}}, {{At: 0, N: 5}, {At: 6, N: top - 6}},
	} {
		if !May(l) {
			t.Errorf("list %d", i)
		}
	}
}

func TestWrong(t *testing.T) { // P7.1, P7.2, P7.3
	for name, l := range wrong() {
		given := slices.Clone(l)
		if May(l) {
			t.Errorf("%s: may be", name)
		}
		if n := Total(l); n != 0 {
			t.Errorf("%s: in all %d", name, n)
		}
		for _, at := range []int{math.MinInt, -1, 0, 1, 2, 3, 4, 5, 6, top - 1, top, math.MaxInt - 1, math.MaxInt} {
			if Has(l, at) {
				t.Errorf("%s: has %d", name, at)
			}
		}
		for _, n := range []int{1, 2, 3, top} {
			if at, x, is := Take(l, n); at != 0 || x != nil || is {
				t.Errorf("%s: took %d: %d, %v, %v", name, n, at, x, is)
			}
		}
		for _, r := range []Run{{At: 20, N: 1}, {At: 1, N: 1}, {At: 0, N: 1}, {At: 8, N: 2}} {
			wantRefused(t, l, r)
		}
		if !slices.Equal(l, given) {
			t.Errorf("%s was changed", name)
		}
	}
}

func TestTotal(t *testing.T) { // P7.1
	for i, c := range []struct {
		l    []Run
		want int
	}{{nil, 0}, {three(), 9}, {three()[:1], 3}, {[]Run{{At: 0, N: top}}, top}, {[]Run{{At: 0, N: 1}, {At: 2, N: top - 2}}, top - 1}} {
		if n := Total(c.l); n != c.want {
			t.Errorf("list %d: %d", i, n)
		}
	}
}

func TestHas(t *testing.T) { // P7.1
	in := []int{2, 3, 4, 7, 10, 11, 12, 13, 14}
	for at := -3; at < 20; at++ {
		if Has(three(), at) != slices.Contains(in, at) {
			t.Errorf("%d", at)
		}
		if Has(nil, at) {
			t.Errorf("nothing has %d", at)
		}
	}
	whole := []Run{{At: 0, N: top}}
	for at, want := range map[int]bool{math.MinInt: false, -1: false, 0: true, top - 1: true, top: false, math.MaxInt: false} {
		if Has(whole, at) != want {
			t.Errorf("the whole: %d", at)
		}
	}
}

func TestTake(t *testing.T) { // P7.2
	for i, c := range []struct {
		l     []Run
		n, at int
		want  []Run
	}{
		{three(), 1, 2, []Run{{At: 3, N: 2}, {At: 7, N: 1}, {At: 10, N: 5}}},
		{three(), 2, 2, []Run{{At: 4, N: 1}, {At: 7, N: 1}, {At: 10, N: 5}}},
		{three(), 3, 2, []Run{{At: 7, N: 1}, {At: 10, N: 5}}},
		{three(), 4, 10, []Run{{At: 2, N: 3}, {At: 7, N: 1}, {At: 14, N: 1}}},
		{three(), 5, 10, []Run{{At: 2, N: 3}, {At: 7, N: 1}}},
		{three()[1:], 1, 7, []Run{{At: 10, N: 5}}}, // the first that fits, not the best
		{three()[1:], 2, 10, []Run{{At: 7, N: 1}, {At: 12, N: 3}}},
		{three()[1:2], 1, 7, nil},
		{[]Run{{At: 0, N: 2}}, 1, 0, []Run{{At: 1, N: 1}}},
		{[]Run{{At: 0, N: top}}, top, 0, nil},
		{[]Run{{At: 0, N: top}}, top - 1, 0, []Run{{At: top - 1, N: 1}}},
		{[]Run{{At: 0, N: top}}, 1, 0, []Run{{At: 1, N: top - 1}}},
		{[]Run{{At: top - 1, N: 1}}, 1, top - 1, nil},
	} {
		given := slices.Clone(c.l)
		at, x, is := Take(c.l, c.n)
		if at != c.at || !slices.Equal(x, c.want) || !is {
			t.Errorf("case %d: %d, %v, %v", i, at, x, is)
		}
		if !slices.Equal(c.l, given) {
			t.Errorf("case %d: the list was changed", i)
		}
	}
}

func TestTakeNone(t *testing.T) { // P7.2
	for _, l := range [][]Run{nil, three(), {{At: 0, N: top - 1}}, {{At: 0, N: top}}} {
		for _, n := range []int{math.MinInt, -top, -1, 0, top + 1, math.MaxInt - 1, math.MaxInt} {
			if at, x, is := Take(l, n); at != 0 || x != nil || is {
				t.Errorf("%v, %d: %d, %v, %v", l, n, at, x, is)
			}
		}
	}
	for i, c := range []struct {
		l []Run
		n int
	}{{nil, 1}, {[]Run{}, 1}, {three(), 6}, {three(), 9}, {three(), top}, {three()[:2], 4}, {[]Run{{At: 1, N: top - 1}}, top}} {
		if at, x, is := Take(c.l, c.n); at != 0 || x != nil || is {
			t.Errorf("case %d: %d, %v, %v", i, at, x, is)
		}
	}
}

func wantRefused(t *testing.T, l []Run, r Run) {
	t.Helper()
	if x, is := Give(l, r); x != nil || is {
		t.Errorf("%v, %v: %v, %v", l, r, x, is)
	}
}

func TestGive(t *testing.T) { // P7.3
	for i, c := range []struct {
		l    []Run
		r    Run
		want []Run
	}{
		{nil, Run{At: 4, N: 2}, []Run{{At: 4, N: 2}}},
		{nil, Run{At: 0, N: top}, []Run{{At: 0, N: top}}},
		{[]Run{{At: 0, N: 3}, {At: 5, N: 4}}, Run{At: 3, N: 2}, []Run{{At: 0, N: 9}}},
		{three(), Run{At: 0, N: 1}, []Run{{At: 0, N: 1}, {At: 2, N: 3}, {At: 7, N: 1}, {At: 10, N: 5}}},
		{three(), Run{At: 0, N: 2}, []Run{{At: 0, N: 5}, {At: 7, N: 1}, {At: 10, N: 5}}},
		{three(), Run{At: 1, N: 1}, []Run{{At: 1, N: 4}, {At: 7, N: 1}, {At: 10, N: 5}}},
		{three(), Run{At: 5, N: 1}, []Run{{At: 2, N: 4}, {At: 7, N: 1}, {At: 10, N: 5}}},
		{three(), Run{At: 6, N: 1}, []Run{{At: 2, N: 3}, {At: 6, N: 2}, {At: 10, N: 5}}},
		{three(), Run{At: 5, N: 2}, []Run{{At: 2, N: 6}, {At: 10, N: 5}}},
		{three(), Run{At: 8, N: 1}, []Run{{At: 2, N: 3}, {At: 7, N: 2}, {At: 10, N: 5}}},
		{three(), Run{At: 8, N: 2}, []Run{{At: 2, N: 3}, {At: 7, N: 8}}},
		{three(), Run{At: 9, N: 1}, []Run{{At: 2, N: 3}, {At: 7, N: 1}, {At: 9, N: 6}}},
		{three(), Run{At: 15, N: 4}, []Run{{At: 2, N: 3}, {At: 7, N: 1}, {At: 10, N: 9}}},
		{three(), Run{At: 16, N: 4}, []Run{{At: 2, N: 3}, {At: 7, N: 1}, {At: 10, N: 5}, {At: 16, N: 4}}},
		{three(), Run{At: 15, N: top - 15}, []Run{{At: 2, N: 3}, {At: 7, N: 1}, {At: 10, N: top - 10}}},
		{three(), Run{At: top - 1, N: 1}, []Run{{At: 2, N: 3}, {At: 7, N: 1}, {At: 10, N: 5}, {At: top - 1, N: 1}}},
		{[]Run{{At: 1, N: top - 1}}, Run{At: 0, N: 1}, []Run{{At: 0, N: top}}},
		{[]Run{{At: 0, N: 1}, {At: top - 1, N: 1}}, Run{At: 1, N: top - 2}, []Run{{At: 0, N: top}}},
	} {
		given := slices.Clone(c.l)
		if x, is := Give(c.l, c.r); !slices.Equal(x, c.want) || !is {
			t.Errorf("case %d: %v, %v", i, x, is)
		}
		if !slices.Equal(c.l, given) {
			t.Errorf("case %d: the list was changed", i)
		}
	}
}

func TestGiveRefused(t *testing.T) { // P7.3
	for _, r := range []Run{
		{At: 2, N: 3}, {At: 2, N: 1}, {At: 3, N: 1}, {At: 4, N: 1}, {At: 0, N: 3}, {At: 1, N: 2}, {At: 4, N: 2},
		{At: 7, N: 1}, {At: 6, N: 2}, {At: 6, N: 3}, {At: 5, N: 3}, {At: 5, N: 5}, {At: 5, N: 6}, {At: 8, N: 3},
		{At: 10, N: 5}, {At: 14, N: 1}, {At: 14, N: 9}, {At: 0, N: 99}, {At: 0, N: top},
	} {
		wantRefused(t, three(), r) // a sector lies in one of them
	}
	for _, r := range []Run{
		{}, {At: 5, N: 0}, {At: 5, N: -1}, {At: 5, N: math.MinInt}, {At: -1, N: 1}, {At: -1, N: 3}, {At: math.MinInt, N: 1},
		{At: top, N: 1}, {At: top - 1, N: 2}, {At: 20, N: top}, {At: 20, N: math.MaxInt}, {At: math.MaxInt, N: 1}, {At: math.MaxInt, N: math.MaxInt},
	} {
		wantRefused(t, three(), r) // it may not be
		wantRefused(t, nil, r)
	}
	wantRefused(t, []Run{{At: 20, N: top - 20}}, Run{At: top, N: 1})
}

func TestOf(t *testing.T) { // P7.4
	for i, c := range []struct {
		used []bool
		want []Run
	}{
		{nil, nil}, {[]bool{}, nil}, {[]bool{true}, nil}, {[]bool{true, true, true}, nil},
		{[]bool{false}, []Run{{At: 0, N: 1}}},
		{[]bool{false, false, false}, []Run{{At: 0, N: 3}}},
		{[]bool{true, false, false, true, false}, []Run{{At: 1, N: 2}, {At: 4, N: 1}}},
		{[]bool{false, true, true, false, false, true}, []Run{{At: 0, N: 1}, {At: 3, N: 2}}},
	} {
		given := slices.Clone(c.used)
		if l := Of(c.used); !slices.Equal(l, c.want) {
			t.Errorf("case %d: %v", i, l)
		}
		if !slices.Equal(c.used, given) {
			t.Errorf("case %d: what was told was changed", i)
		}
	}
}

// roomy has l with room behind it that is filled, so that a write there shows.
func roomy(l []Run) ([]Run, []Run) {
	whole := append(slices.Clone(l), Run{At: 901, N: 1}, Run{At: 903, N: 1}, Run{At: 905, N: 1})
	return whole[:len(l)], whole
}

func wantOwn(t *testing.T, x []Run, whole []Run, was []Run) {
	t.Helper()
	for i := range x {
		x[i] = Run{At: -9, N: -9}
	}
	if x = append(x, Run{At: -9, N: -9}); !slices.Equal(whole, was) {
		t.Errorf("%v became %v", was, whole)
	}
}

func TestIsNew(t *testing.T) { // R5 of P7.2 and P7.3
	for n := 1; n <= 5; n++ {
		for upTo := range 4 {
			l, whole := roomy(three()[:upTo])
			was := slices.Clone(whole)
			_, x, _ := Take(l, n)
			wantOwn(t, x, whole, was)
		}
	}
	for _, r := range []Run{{At: 0, N: 1}, {At: 0, N: 2}, {At: 5, N: 2}, {At: 8, N: 2}, {At: 15, N: 1}, {At: 20, N: 1}} {
		for upTo := range 4 {
			l, whole := roomy(three()[:upTo])
			was := slices.Clone(whole)
			x, _ := Give(l, r)
			wantOwn(t, x, whole, was)
		}
	}
}

// places is how many sectors the small devices have that are gone through whole.
const places = 7

func usedBy(bits int) []bool {
	used := make([]bool, places)
	for at := range used {
		used[at] = bits>>at&1 == 1
	}
	return used
}

// firstOf is the first place where n sectors are free, at the front of a run.
func firstOf(used []bool, n int) int {
	for at := range used {
		front := at == 0 || used[at-1]
		if front && at+n <= len(used) && !slices.Contains(used[at:at+n], true) {
			return at
		}
	}
	return -1
}

func marked(used []bool, r Run, as bool) []bool {
	x := slices.Clone(used)
	for at := r.At; at < r.At+r.N; at++ {
		x[at] = as
	}
	return x
}

func TestOfEach(t *testing.T) { // P7.1, P7.4
	for bits := range 1 << places {
		used := usedBy(bits)
		l := Of(used)
		free := 0
		for at, is := range used {
			if Has(l, at) == is {
				t.Fatalf("%v: %v, place %d", used, l, at)
			}
			if !is {
				free++
			}
		}
		if !May(l) || Total(l) != free || Has(l, -1) || Has(l, places) {
			t.Fatalf("%v: %v", used, l)
		}
	}
}

func TestTakeEach(t *testing.T) { // P7.2, P7.5
	for bits := range 1 << places {
		used := usedBy(bits)
		l := Of(used)
		for n := 1; n <= places+1; n++ {
			want := firstOf(used, n)
			at, x, is := Take(l, n)
			if want < 0 {
				if at != 0 || x != nil || is {
					t.Fatalf("%v, %d: %d, %v, %v", used, n, at, x, is)
				}
				continue
			}
			r := Run{At: want, N: n}
			if at != want || !slices.Equal(x, Of(marked(used, r, true))) || !is {
				t.Fatalf("%v, %d: %d, %v, %v", used, n, at, x, is)
			}
			if back, is := Give(x, r); !slices.Equal(back, l) || !is {
				t.Fatalf("%v, %d: back: %v, %v", used, n, back, is)
			}
		}
	}
}

func TestGiveEach(t *testing.T) { // P7.3
	for bits := range 1 << places {
		used := usedBy(bits)
		l := Of(used)
		for at := range places {
			for n := 1; at+n <= places; n++ {
				r := Run{At: at, N: n}
				if slices.Contains(used[at:at+n], false) {
					wantRefused(t, l, r)
				} else if x, is := Give(l, r); !slices.Equal(x, Of(marked(used, r, false))) || !is {
					t.Fatalf("%v, %v: %v, %v", used, r, x, is)
				}
			}
		}
	}
}

func TestTakeAndGiveBack(t *testing.T) { // P7.5
	r := rand.New(rand.NewSource(7))
	for range 200 {
		used := make([]bool, 1+r.Intn(60))
		for at := range used {
			used[at] = r.Intn(3) == 0
		}
		start := Of(used)
		l := start
		var taken []Run
		for {
			n := 1 + r.Intn(4)
			at, x, is := Take(l, n)
			if !is {
				break
			}
			if !May(x) || Total(x) != Total(l)-n {
				t.Fatalf("%v, %d: %v", l, n, x)
			}
			l, taken = x, append(taken, Run{At: at, N: n})
		}
		r.Shuffle(len(taken), func(i, j int) { taken[i], taken[j] = taken[j], taken[i] })
		for _, g := range taken {
			x, is := Give(l, g)
			if !is || !May(x) || Total(x) != Total(l)+g.N {
				t.Fatalf("%v, %v: %v, %v", l, g, x, is)
			}
			wantRefused(t, x, g) // not twice
			l = x
		}
		if !slices.Equal(l, start) {
			t.Fatalf("%v, not %v", l, start)
		}
	}
}
