package class

import (
	"math"
	"slices"
	"testing"

	"permafrost/api"
)

// plain has policies that Check lets pass, of each of its numbers' edges.
var plain = []api.Policy{
	{}, {MetaFast: true}, {Mirror: true}, {MetaFast: true, Mirror: true},
	{Small: 1}, {Small: 100}, {Small: 256}, {Arc: 1}, {Arc: 64}, {Second: 1}, {Second: 508},
	{MetaFast: true, Small: 100}, {Mirror: true, Small: 100},
	{MetaFast: true, Mirror: true, Small: 256, Arc: 64, Second: 508},
}

// wrong has policies that differ from a good one in one thing each.
var wrong = []api.Policy{
	{Small: 257}, {Small: -1}, {Small: math.MinInt}, {Small: math.MaxInt},
	{Arc: 65}, {Arc: -1}, {Arc: math.MinInt}, {Arc: math.MaxInt},
	{Second: 509}, {Second: 512}, {Second: -1}, {Second: math.MinInt}, {Second: math.MaxInt},
	{MetaFast: true, Mirror: true, Small: 257, Arc: 64, Second: 508},
	{MetaFast: true, Mirror: true, Small: 256, Arc: 65, Second: 508},
	{MetaFast: true, Mirror: true, Small: 256, Arc: 64, Second: 509},
}

func TestCheck(t *testing.T) { // P8.1
	for _, p := range plain {
		if e := Check(p); e != api.OK {
			t.Errorf("%v: %d", p, e)
		}
	}
	for _, p := range wrong {
		if e := Check(p); e != api.ErrArg {
			t.Errorf("%v: %d", p, e)
		}
	}
}

func TestChoose(t *testing.T) { // P8.2
	fast := api.Policy{MetaFast: true, Small: 100}
	both := api.Policy{MetaFast: true, Mirror: true, Small: 100}
	for i, c := range []struct {
		p          api.Policy
		kind, size int
		free       []int
		want       []int
	}{
		// Meta wants fast, of any size.
		{fast, api.Meta, 0, []int{1, 1}, []int{api.Fast}},
		{fast, api.Meta, 960, []int{1, 1}, []int{api.Fast}},
		{fast, api.Meta, 960, []int{0, 1}, []int{api.Fast}},
		{fast, api.Meta, 960, []int{1, 0}, []int{api.Slow}},
		{fast, api.Meta, 960, []int{0, 0}, nil},
		// Meta that is mirrored stands where there is room.
		{both, api.Meta, 0, []int{1, 1}, []int{api.Fast, api.Slow}},
		{both, api.Meta, 960, []int{508, 508}, []int{api.Fast, api.Slow}},
		{both, api.Meta, 960, []int{0, 1}, []int{api.Fast}},
		{both, api.Meta, 960, []int{1, 0}, []int{api.Slow}},
		{both, api.Meta, 960, []int{0, 0}, nil},
		// Meta that wants nothing: Mirror alone, or Small, is no wish of its own.
		{api.Policy{}, api.Meta, 5, []int{1, 1}, []int{api.Slow}},
		{api.Policy{Mirror: true}, api.Meta, 5, []int{1, 1}, []int{api.Slow}},
		{api.Policy{Small: 100}, api.Meta, 5, []int{1, 1}, []int{api.Slow}},
		{api.Policy{Mirror: true}, api.Meta, 5, []int{0, 1}, nil},
		// Data wants fast up to Small, and never both.
		{fast, api.Data, 0, []int{1, 1}, []int{api.Fast}},
		{fast, api.Data, 100, []int{1, 1}, []int{api.Fast}},
		{fast, api.Data, 101, []int{1, 1}, []int{api.Slow}},
		{fast, api.Data, 100, []int{1, 0}, []int{api.Slow}},
		{fast, api.Data, 100, []int{0, 0}, nil},
		{fast, api.Data, 101, []int{0, 1}, nil},
		{both, api.Data, 100, []int{1, 1}, []int{api.Fast}},
		{both, api.Data, 101, []int{1, 1}, []int{api.Slow}},
		{api.Policy{Small: 1}, api.Data, 1, []int{1, 1}, []int{api.Fast}},
		{api.Policy{Small: 1}, api.Data, 2, []int{1, 1}, []int{api.Slow}},
		{api.Policy{Small: 256}, api.Data, 256, []int{1, 1}, []int{api.Fast}},
		{api.Policy{Small: 256}, api.Data, 257, []int{1, 1}, []int{api.Slow}},
		// Small 0: none, not even an empty block.
		{api.Policy{MetaFast: true, Mirror: true}, api.Data, 0, []int{1, 1}, []int{api.Slow}},
		{api.Policy{}, api.Data, 0, []int{1, 1}, []int{api.Slow}},
		{api.Policy{}, api.Data, 960, []int{0, math.MaxInt}, nil},
	} {
		given := slices.Clone(c.free)
		e := api.OK
		if c.want == nil {
			e = api.ErrFull
		}
		if l, got := Choose(c.p, c.kind, c.size, c.free); !slices.Equal(l, c.want) || got != e {
			t.Errorf("case %d: %v, %d", i, l, got)
		}
		if !slices.Equal(c.free, given) {
			t.Errorf("case %d: what is free was changed", i)
		}
	}
}

func wantArg(t *testing.T, p api.Policy, kind int, size int, free []int) {
	t.Helper()
	if l, e := Choose(p, kind, size, free); l != nil || e != api.ErrArg {
		t.Errorf("%v, %d, %d, %v: %v, %d", p, kind, size, free, l, e)
	}
}

func TestChooseWrong(t *testing.T) { // P8.2
	for _, free := range [][]int{{1, 1}, {0, 0}} { // ErrArg goes ahead of ErrFull
		for _, p := range wrong {
			wantArg(t, p, api.Meta, 5, free)
			wantArg(t, p, api.Data, 5, free)
		}
		for _, p := range plain {
			for _, kind := range []int{-1, 2, 3, math.MinInt, math.MaxInt} {
				wantArg(t, p, kind, 5, free)
			}
			for _, size := range []int{-1, 961, math.MinInt, math.MaxInt} {
				wantArg(t, p, api.Meta, size, free)
				wantArg(t, p, api.Data, size, free)
			}
		}
	}
	for _, p := range plain {
		for _, free := range [][]int{
			nil, {}, {1}, {0}, {1, 1, 1}, {0, 0, 0}, {-1, 1}, {1, -1}, {-1, -1}, {0, -1}, {-1, 0},
			{math.MinInt, 1}, {1, math.MinInt},
		} {
			wantArg(t, p, api.Meta, 5, free)
			wantArg(t, p, api.Data, 5, free)
		}
	}
}

func TestChooseIsNew(t *testing.T) { // R5 of P8.2
	p := api.Policy{MetaFast: true, Mirror: true}
	for _, free := range [][]int{{1, 1}, {0, 1}, {1, 0}} {
		a, _ := Choose(p, api.Meta, 5, free)
		was := slices.Clone(a)
		a[0] = 9
		if b, _ := Choose(p, api.Meta, 5, free); !slices.Equal(b, was) {
			t.Errorf("%v: %v, not %v", free, b, was)
		}
	}
}

func TestNeed(t *testing.T) { // P8.3
	const most = 1 << 30
	for i, c := range []struct {
		p            api.Policy
		metas, datas int
		slow, fast   int
	}{
		{api.Policy{}, 3, 4, 7, 0},
		{api.Policy{Mirror: true}, 3, 4, 7, 0},
		{api.Policy{MetaFast: true}, 3, 4, 7, 3},
		{api.Policy{MetaFast: true, Mirror: true}, 3, 4, 7, 3},
		{api.Policy{Small: 1}, 3, 4, 7, 4},
		{api.Policy{Small: 256, Arc: 64, Second: 508}, 3, 4, 7, 4},
		{api.Policy{MetaFast: true, Small: 100}, 3, 4, 7, 7},
		{api.Policy{MetaFast: true, Small: 100}, 0, 0, 0, 0},
		{api.Policy{MetaFast: true, Small: 100}, 3, 0, 3, 3},
		{api.Policy{MetaFast: true, Small: 100}, 0, 4, 4, 4},
		{api.Policy{MetaFast: true, Small: 100}, most, most, 2 * most, 2 * most},
		{api.Policy{MetaFast: true}, most, 1, most + 1, most},
		{api.Policy{}, 0, most, most, 0},
	} {
		if s, f := Need(c.p, c.metas, c.datas); s != c.slow || f != c.fast {
			t.Errorf("case %d: %d, %d", i, s, f)
		}
	}
}

func TestNeedWrong(t *testing.T) { // P8.3
	for _, n := range []int{-1, math.MinInt, 1<<30 + 1, math.MaxInt} {
		for _, p := range plain {
			for _, c := range [][2]int{{n, 4}, {3, n}, {n, n}} {
				if s, f := Need(p, c[0], c[1]); s != 0 || f != 0 {
					t.Errorf("%v, %v: %d, %d", p, c, s, f)
				}
			}
		}
	}
	for _, p := range wrong {
		p.MetaFast = true
		if s, f := Need(p, 3, 4); s != 0 || f != 0 {
			t.Errorf("%v: %d, %d", p, s, f)
		}
	}
}

func TestToldHasRoom(t *testing.T) { // P8.4, and what Need tells is enough for each block
	for _, p := range plain {
		for _, kind := range []int{api.Meta, api.Data} {
			for size := 0; size <= api.MaxLoad; size++ {
				for _, free := range [][]int{{0, 0}, {0, 1}, {1, 0}, {1, 1}, {7, 0}, {0, 7}, {7, 7}} {
					l, e := Choose(p, kind, size, free)
					if e != api.OK && (e != api.ErrFull || len(l) != 0) || e == api.OK && len(l) == 0 {
						t.Fatalf("%v, %d, %d, %v: %v, %d", p, kind, size, free, l, e)
					}
					var times [2]int
					for _, device := range l {
						times[device]++
					}
					slow, fast := Need(p, 1-kind, kind)
					for device, most := range []int{slow, fast} {
						if times[device] > min(free[device], most) {
							t.Fatalf("%v, %d, %d, %v: %v", p, kind, size, free, l)
						}
					}
				}
			}
		}
	}
}
