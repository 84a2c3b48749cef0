package uber

import (
	"fmt"
	"math"
	"math/rand"
	"slices"
	"strings"
	"testing"

	"permafrost/api"
	"permafrost/dev"
	"permafrost/sum"
)

func slow(at int) api.Loc { return api.Loc{Dev: api.Slow, At: at} }

func fast(at int) api.Loc { return api.Loc{Dev: api.Fast, At: at} }

func seal(s string) string { return s + sum.Of(s) }

func text(t *testing.T, u Uber) string {
	t.Helper()
	s, e := Encode(u)
	if e != api.OK {
		t.Fatalf("%v: %d", u, e)
	}
	return s
}

func mustWrite(t *testing.T, d *dev.Devs, u Uber) {
	t.Helper()
	if e := Write(d, u); e != api.OK {
		t.Fatalf("%v: %d", u, e)
	}
}

func wantBest(t *testing.T, d *dev.Devs, want Uber) {
	t.Helper()
	if u, is := Best(d); u != want || !is {
		t.Errorf("%v, %v, not %v", u, is, want)
	}
}

func wantNoBest(t *testing.T, d *dev.Devs) {
	t.Helper()
	if u, is := Best(d); is || u != (Uber{}) {
		t.Errorf("%v, %v", u, is)
	}
}

// whole is the longest Load.
var whole = strings.Repeat("w", 960)

func TestEncode(t *testing.T) { // P6.1
	for i, c := range []struct {
		u    Uber
		want string
	}{
		{Uber{}, "PF\x00\x00\x00\x00\x00\x00\x00\x00"},
		{Uber{Txg: 258, Load: "hi"}, "PF\x02\x01\x00\x00\x00\x00\x02\x00hi"},
		{Uber{Txg: 0x0203040506, Load: "\x00"}, "PF\x06\x05\x04\x03\x02\x00\x01\x00\x00"},
		{Uber{Txg: 1 << 40, Load: whole}, "PF\x00\x00\x00\x00\x00\x01\xc0\x03" + whole},
	} {
		if s, e := Encode(c.u); s != seal(c.want) || e != api.OK {
			t.Errorf("case %d: %q, %d", i, s, e)
		}
		if u, e := Decode(seal(c.want)); u != c.u || e != api.OK {
			t.Errorf("case %d: back: %v, %d", i, u, e)
		}
	}
}

// wrong has what is no root.
var wrong = []Uber{
	{Txg: -1}, {Txg: math.MinInt}, {Txg: 1<<40 + 1}, {Txg: 1 << 48}, {Txg: math.MaxInt},
	{Load: whole + "w"}, {Txg: 5, Load: strings.Repeat("w", 65536)}, {Txg: -4, Load: "a"},
}

func TestEncodeWrong(t *testing.T) { // P6.1
	for i, u := range wrong {
		if s, e := Encode(u); s != "" || e != api.ErrArg {
			t.Errorf("case %d: %q, %d", i, s, e)
		}
	}
}

func wantUndecoded(t *testing.T, s string, want api.Errno) {
	t.Helper()
	if u, e := Decode(s); u != (Uber{}) || e != want {
		t.Errorf("%q: %v, %d, not %d", s, u, e, want)
	}
}

func TestDecodeCut(t *testing.T) { // P6.1: fewer than 42 bytes are cut, whatever they are
	s := text(t, Uber{Txg: 258})
	if len(s) != 42 {
		t.Fatalf("%d bytes", len(s))
	}
	for n := range 42 {
		wantUndecoded(t, s[:n], api.ErrCut)
		wantUndecoded(t, s[42-n:], api.ErrCut)
	}
	for _, body := range []string{"", "PF", "PF\x02\x01\x00\x00\x00\x00\x00", "123456789"} {
		wantUndecoded(t, seal(body), api.ErrCut)
	}
	longer := text(t, Uber{Txg: 258, Load: "hello"})
	for n := range longer {
		want := api.ErrSum
		if n < 42 {
			want = api.ErrCut
		}
		wantUndecoded(t, longer[:n], want)
	}
}

func TestDecodeSum(t *testing.T) { // P6.1: any byte that is another one, and ahead of the form
	s := text(t, Uber{Txg: 258, Load: "hello"})
	for i := range len(s) {
		b := []byte(s)
		b[i] ^= 1
		wantUndecoded(t, string(b), api.ErrSum)
	}
	wantUndecoded(t, s+"x", api.ErrSum)
	wantUndecoded(t, strings.Repeat("\x00", 42), api.ErrSum)
	wantUndecoded(t, strings.Repeat("x", 1024), api.ErrSum)
}

func TestDecodeForm(t *testing.T) { // P6.1
	const txg = "\x02\x01\x00\x00\x00\x00"
	for _, body := range []string{
		"pF" + txg + "\x00\x00",
		"Pf" + txg + "\x00\x00",
		"FP" + txg + "\x00\x00",
		"\x00\x00" + txg + "\x00\x00",
		"PF" + txg + "\x00\x00x",
		"PF" + txg + "\x01\x00",
		"PF" + txg + "\x02\x00a",
		"PF" + txg + "\x02\x00abc",
		"PF" + txg + "\xff\xff" + whole,
		"PF" + txg + "\xc1\x03" + whole + "w",
		"PF" + txg + "\x00\x04" + strings.Repeat("w", 1024),
		"PF" + "\x01\x00\x00\x00\x00\x01" + "\x00\x00",
		"PF" + "\x00\x00\x00\x00\x00\x02" + "\x00\x00",
		"PF" + "\xff\xff\xff\xff\xff\xff" + "\x00\x00",
		seal("PF" + txg + "\x00\x00"),
	} {
		wantUndecoded(t, seal(body), api.ErrForm)
	}
}

func TestDecodeTells(t *testing.T) { // P6.1
	r := rand.New(rand.NewSource(6))
	for range 500 {
		u := Uber{Txg: r.Intn(1<<40 + 1), Load: strings.Repeat(string(rune('a'+r.Intn(26))), r.Intn(961))}
		if back, e := Decode(text(t, u)); back != u || e != api.OK {
			t.Fatalf("%v: %v, %d", u, back, e)
		}
		// What decodes, sealed anew with one byte changed, is the root of that text.
		s := text(t, u)
		b := []byte(s[:len(s)-32])
		b[r.Intn(len(b))] ^= byte(1 + r.Intn(255))
		other, e := Decode(seal(string(b)))
		if e == api.OK && text(t, other) != seal(string(b)) || e == api.OK && other == u || e != api.OK && e != api.ErrForm {
			t.Fatalf("%q: %v, %d", b, other, e)
		}
	}
}

func TestWrite(t *testing.T) { // P6.2: its sector, of both devices, in no other one
	for _, txg := range []int{0, 1, 2, 3, 4, 7, 1<<40 - 1, 1 << 40} {
		d := dev.New(6, 6)
		u := Uber{Txg: txg, Load: "load"}
		mustWrite(t, d, u)
		waits := d.Waits()
		at := txg % 4
		if len(waits) != 2 || !slices.Contains(waits, slow(at)) || !slices.Contains(waits, fast(at)) {
			t.Errorf("%d: %v", txg, waits)
		}
		for _, l := range waits {
			if s, e := d.Read(l); s != text(t, u) || e != api.OK {
				t.Errorf("%d: %v: %q, %d", txg, l, s, e)
			}
		}
		wantBest(t, d, u)
	}
}

func TestWriteWrong(t *testing.T) { // P6.2
	d := dev.New(6, 6)
	gone := dev.New(6, 6)
	gone.Lose(api.Slow)
	gone.Lose(api.Fast)
	for i, u := range wrong {
		for _, on := range []*dev.Devs{d, gone, nil} {
			if e := Write(on, u); e != api.ErrArg {
				t.Errorf("case %d: %d", i, e)
			}
		}
	}
	if len(d.Waits()) != 0 {
		t.Errorf("%v", d.Waits())
	}
	if e := Write(nil, Uber{Txg: 1}); e != api.ErrArg {
		t.Errorf("nil: %d", e)
	}
	if e := Write(gone, Uber{Txg: 1}); e != api.ErrGone {
		t.Errorf("both lost: %d", e)
	}
}

func TestWriteWhereItCan(t *testing.T) { // P6.2
	u := Uber{Txg: 7, Load: "load"}
	for i, c := range []struct {
		slow, fast int
		lost       int
		waits      []api.Loc
	}{
		{4, 4, api.Slow, []api.Loc{fast(3)}},
		{4, 4, api.Fast, []api.Loc{slow(3)}},
		{3, 4, -1, []api.Loc{fast(3)}},
		{4, 1, -1, []api.Loc{slow(3)}},
		{3, 3, -1, nil},
		{1, 1, -1, nil},
		{4, 3, api.Slow, nil},
		{3, 4, api.Fast, nil},
		{3, 4, api.Slow, []api.Loc{fast(3)}},
	} {
		d := dev.New(c.slow, c.fast)
		d.Lose(c.lost)
		want := api.OK
		if c.waits == nil {
			want = api.ErrGone
		}
		if e := Write(d, u); e != want || !slices.Equal(d.Waits(), c.waits) {
			t.Errorf("case %d: %d, %v", i, e, d.Waits())
		}
		if c.waits == nil {
			wantNoBest(t, d)
		} else {
			wantBest(t, d, u)
		}
	}
	if e := Write(&dev.Devs{}, u); e != api.ErrGone {
		t.Errorf("devices without sectors: %d", e)
	}
}

func TestNoBest(t *testing.T) { // P6.2
	wantNoBest(t, nil)
	wantNoBest(t, &dev.Devs{})
	wantNoBest(t, dev.New(1, 1))
	d := dev.New(512, 512)
	wantNoBest(t, d)
	for at := range 4 {
		d.Spoil(slow(at), "junk")
		d.Spoil(fast(at), strings.Repeat("x", 1024))
	}
	wantNoBest(t, d)
}

func TestBestOfNought(t *testing.T) { // P6.2: the empty root is a root
	d := dev.New(1, 1)
	mustWrite(t, d, Uber{})
	wantBest(t, d, Uber{})
	d.Lose(api.Slow)
	wantBest(t, d, Uber{})
	d.Lose(api.Fast)
	wantNoBest(t, d)
}

func TestBestIsTheGreatest(t *testing.T) { // P6.2: by its number, wherever it stands
	for _, order := range [][]int{{4, 5, 6, 7}, {7, 6, 5, 4}, {8, 5, 6, 7}, {8, 9, 6, 7}, {3, 2, 1 << 40, 1}, {1, 300, 258, 3}} {
		d := dev.New(6, 6)
		for i, txg := range order {
			// Each device has some of them alone.
			u := Uber{Txg: txg, Load: fmt.Sprint(txg)}
			d.Spoil(api.Loc{Dev: i % 2, At: txg % 4}, text(t, u))
		}
		most := slices.Max(order)
		wantBest(t, d, Uber{Txg: most, Load: fmt.Sprint(most)})
	}
}

func TestBestOfSeveral(t *testing.T) { // P6.2: the slow device's
	d := dev.New(6, 6)
	d.Spoil(fast(1), text(t, Uber{Txg: 5, Load: "fast"}))
	wantBest(t, d, Uber{Txg: 5, Load: "fast"})
	d.Spoil(slow(1), text(t, Uber{Txg: 5, Load: "slow"}))
	wantBest(t, d, Uber{Txg: 5, Load: "slow"})
	d.Spoil(fast(2), text(t, Uber{Txg: 6, Load: "fast"}))
	wantBest(t, d, Uber{Txg: 6, Load: "fast"})
	d.Spoil(slow(1), text(t, Uber{Txg: 1, Load: "older"}))
	d.Spoil(fast(2), "junk")
	wantBest(t, d, Uber{Txg: 5, Load: "fast"})
}

func TestBestInItsSector(t *testing.T) { // P6.2
	stray := text(t, Uber{Txg: 9, Load: "stray"})
	for _, device := range []int{api.Slow, api.Fast} {
		d := dev.New(12, 12)
		for at := range 12 {
			if at != 1 {
				d.Spoil(api.Loc{Dev: device, At: at}, stray)
			}
		}
		wantNoBest(t, d)
		d.Spoil(api.Loc{Dev: 1 - device, At: 2}, text(t, Uber{Txg: 2}))
		wantBest(t, d, Uber{Txg: 2})
		d.Spoil(api.Loc{Dev: device, At: 1}, stray)
		wantBest(t, d, Uber{Txg: 9, Load: "stray"})
	}
	d := dev.New(12, 12)
	d.Spoil(slow(4), text(t, Uber{Txg: 4})) // not in the ring
	d.Spoil(fast(8), text(t, Uber{Txg: 8}))
	wantNoBest(t, d)
}

func TestBestWrites(t *testing.T) { // P6.2: what is asked is not changed
	d := dev.New(6, 6)
	mustWrite(t, d, Uber{Txg: 3})
	waits := d.Waits()
	Best(d)
	if !slices.Equal(d.Waits(), waits) {
		t.Errorf("%v", d.Waits())
	}
}

func TestRingTurns(t *testing.T) { // P6.2: four of them stand, on each device
	d := dev.New(6, 6)
	for txg := range 20 {
		mustWrite(t, d, Uber{Txg: txg, Load: fmt.Sprint(txg)})
		d.Flush()
		for back := range min(txg+1, 4) {
			for _, l := range []api.Loc{slow((txg - back) % 4), fast((txg - back) % 4)} {
				s, _ := d.Read(l)
				if u, e := Decode(s); u.Txg != txg-back || e != api.OK {
					t.Errorf("%d: %v: %v, %d", txg, l, u, e)
				}
			}
		}
	}
}

func TestCrash(t *testing.T) { // P6.3
	for kept := range 4 {
		keep := []bool{kept&1 != 0, kept&2 != 0}
		for _, lost := range []int{-1, api.Slow, api.Fast} {
			d := dev.New(6, 6)
			d.Lose(lost)
			older := Uber{}
			mustWrite(t, d, older)
			d.Flush()
			for txg := 1; txg < 12; txg++ {
				newer := Uber{Txg: txg, Load: fmt.Sprint(txg)}
				mustWrite(t, d, newer)
				want := older
				if keep[0] || lost < 0 && keep[1] {
					want = newer
				}
				after := d.Copy()
				after.Crash(keep)
				wantBest(t, after, want)
				d.Flush()
				wantBest(t, d, newer)
				older = newer
			}
		}
	}
}
