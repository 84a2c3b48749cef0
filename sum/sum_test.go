package sum

import (
	"crypto/sha256"
	"encoding/hex"
	"math/big"
	"strings"
	"testing"
)

// sample has n bytes of all kinds.
func sample(n int) string {
	b := make([]byte, n)
	x := uint32(1)
	for i := range b {
		x = x*1664525 + 1013904223
		b[i] = byte(x >> 24)
	}
	return string(b)
}

func reference(s string) string {
	d := sha256.Sum256([]byte(s))
	return string(d[:])
}

func primes(n int) []int64 {
	var l []int64
next:
	for p := int64(2); len(l) < n; p++ {
		for _, q := range l {
			if p%q == 0 {
				continue next
			}
		}
		l = append(l, p)
	}
	return l
}

// root tells the first 32 bits behind the point of p's root of that degree, by halving.
func root(p int64, degree int) uint32 {
	want := new(big.Int).Lsh(big.NewInt(p), uint(32*degree))
	low, high := big.NewInt(0), new(big.Int).Lsh(big.NewInt(p), 32)
	for low.Cmp(high) < 0 {
		middle := new(big.Int).Add(low, high)
		middle.Add(middle, big.NewInt(1)).Rsh(middle, 1)
		if new(big.Int).Exp(middle, big.NewInt(int64(degree)), nil).Cmp(want) > 0 {
			high = middle.Sub(middle, big.NewInt(1))
		} else {
			low = middle
		}
	}
	return uint32(low.Uint64())
}

func TestRoots(t *testing.T) { // P2.1
	for i, p := range primes(64) {
		if cubeRoots[i] != root(p, 3) {
			t.Errorf("K%d", i)
		}
	}
	for i, p := range primes(8) {
		if squareRoots()[i] != root(p, 2) {
			t.Errorf("H%d", i)
		}
	}
}

func TestKnownDigests(t *testing.T) { // P2.1
	cases := []struct{ s, want string }{
		{"", "e3b0c44298fc1c149afbf4c8996fb92427ae41e4649b934ca495991b7852b855"},
		{"abc", "ba7816bf8f01cfea414140de5dae2223b00361a396177a9cb410ff61f20015ad"},
		{"abcdbcdecdefdefgefghfghighijhijkijkljklmklmnlmnomnopnopq", "248d6a61d20638b8e5c026930c3e6039a33ce45964ff2167f6ecedd419db06c1"},
		{strings.Repeat("a", 1000000), "cdc76e5c9914fb9281a1c7e284d73e67f1809a48a497200e046d39ccc7112cd0"},
	}
	for _, c := range cases {
		if got := Hex(Of(c.s)); got != c.want {
			t.Errorf("%d bytes: %s", len(c.s), got)
		}
	}
}

func TestDigestsOfAllLengths(t *testing.T) { // P2.1
	// All places in a block where the bytes, the padding or the length can end.
	for n := range 300 {
		s := sample(n)
		if got := Of(s); got != reference(s) || len(got) != 32 {
			t.Errorf("%d bytes: %s", n, Hex(got))
		}
	}
	// A length whose bits take more than three bytes.
	long := sample(1<<21 + 7)
	if Of(long) != reference(long) {
		t.Error("a long text")
	}
}

func TestPartsMakeNoDifference(t *testing.T) { // P2.2, P2.3
	for _, n := range []int{0, 1, 55, 56, 63, 64, 65, 119, 120, 127, 128, 129, 200} {
		s := sample(n)
		want := reference(s)
		for cut := range n + 1 {
			w := New()
			w.Write(s[:cut])
			w.Write("")
			w.Write(s[cut:])
			if w.Sum() != want || w.Len() != n {
				t.Errorf("%d bytes, cut at %d: %s, %d", n, cut, Hex(w.Sum()), w.Len())
			}
		}
	}
	s := sample(1000)
	for size := 1; size <= 200; size++ {
		w := New()
		for at := 0; at < len(s); at += size {
			w.Write(s[at:min(at+size, len(s))])
		}
		if w.Sum() != reference(s) || w.Len() != len(s) {
			t.Errorf("parts of %d", size)
		}
	}
}

func TestWriterGoesOnBehindSum(t *testing.T) { // P2.2
	w := New()
	s := sample(200)
	for n := range len(s) {
		for range 2 {
			if w.Sum() != reference(s[:n]) || w.Len() != n {
				t.Errorf("behind %d bytes", n)
			}
		}
		w.Write(s[n : n+1])
	}
}

func TestWriterWithoutBytes(t *testing.T) { // P2.2
	w := New()
	if w == nil || w.Sum() != Of("") || w.Len() != 0 {
		t.Error("a new Writer")
	}
	w.Write("")
	if w.Sum() != Of("") || w.Len() != 0 {
		t.Error("a Writer to which nothing was added")
	}
	var none *Writer
	none.Write("abc")
	if none.Sum() != Of("") || none.Len() != 0 {
		t.Error("a Writer that is nil")
	}
	for _, s := range []string{"", "abc", sample(64), sample(150)} {
		var zero Writer
		zero.Write(s)
		if zero.Sum() != Of(s) || zero.Len() != len(s) {
			t.Errorf("a Writer of zero values: %d bytes", len(s))
		}
	}
}

func TestWritersAreApart(t *testing.T) { // P2.2, R6
	a, b := New(), New()
	s := sample(130)
	a.Write(s[:70])
	b.Write(s)
	a.Write(s[70:])
	if a.Sum() != reference(s) || b.Sum() != reference(s) {
		t.Error("one Writer's bytes are another's")
	}
	a.Write("x")
	if b.Sum() != reference(s) || b.Len() != 130 {
		t.Error("one Writer's bytes are another's")
	}
}

func TestHex(t *testing.T) { // P2.2
	var all []byte
	for i := range 256 {
		all = append(all, byte(i))
	}
	if Hex(string(all)) != hex.EncodeToString(all) {
		t.Error("all bytes")
	}
	if Hex("") != "" || Hex("\x00\xff\x1a") != "00ff1a" {
		t.Error("examples")
	}
}

func BenchmarkOf(b *testing.B) {
	s := sample(1024)
	b.SetBytes(1024)
	for b.Loop() {
		Of(s)
	}
}
