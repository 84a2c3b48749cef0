package script

import (
	"fmt"
	"math/rand"
	"strings"
	"testing"

	"permafrost/api"
	"permafrost/ptr"
)

// Whatever may happen, for all tests.

func pointer(t *testing.T, ref string) api.Ptr {
	t.Helper()
	p, e := ptr.Decode(ref)
	if e != api.OK {
		t.Fatalf("%q is no ref", ref)
	}
	return p
}

func anyPolicy(r *rand.Rand) api.Policy {
	return api.Policy{MetaFast: r.Intn(2) == 0, Mirror: r.Intn(2) == 0, Small: r.Intn(2) * r.Intn(257), Arc: r.Intn(2) * (1 + r.Intn(20)), Second: r.Intn(2) * r.Intn(30)}
}

func anyPath(r *rand.Rand) string {
	if r.Intn(40) == 0 {
		return []string{"", "/", "a", "/a/", "//a", "/..", "/" + strings.Repeat("n", 255), "/" + strings.Repeat("n", 256)}[r.Intn(8)]
	}
	p := ""
	for range 1 + r.Intn(3)*r.Intn(3)/2 {
		p += "/" + string("abcd"[r.Intn(4)])
	}
	return p
}

func anyOp(r *rand.Rand) api.Op {
	numbers := []int{0, 0, 255, 256, 300, 512, 16384, -1, r.Intn(1500), r.Intn(1500)}
	return api.Op{
		Do: []int{0, 0, 0, 1, 1, 2, 3, 4, 5, 6, 6, 7, 7, 7, 8, 9, 10, 11}[r.Intn(18)], Path: anyPath(r), To: anyPath(r),
		Off: numbers[r.Intn(len(numbers))], Len: numbers[r.Intn(len(numbers))],
		Data: strings.Repeat(fmt.Sprint(r.Intn(100)), r.Intn(2)*r.Intn(250)),
	}
}

func anyName(r *rand.Rand) string { return fmt.Sprint(r.Intn(5)) }

func anyKeep(r *rand.Rand, n int) []bool {
	var l []bool
	for range r.Intn(n + 1) {
		l = append(l, r.Intn(3) > 0)
	}
	return l
}

// anyItem is what may happen, harm and losses, too.
func anyItem(r *rand.Rand) Item {
	switch n := r.Intn(40); {
	case n < kinds:
		return Item{
			Do: n, O: anyOp(r), Name: anyName(r), Now: r.Intn(40), N: r.Intn(3), Keep: anyKeep(r, 30),
			Loc: api.Loc{Dev: r.Intn(2), At: r.Intn(70)}, Data: strings.Repeat("harm", r.Intn(2)),
		}
	case n == kinds:
		return Item{Do: r.Intn(90) - 40, O: anyOp(r)}
	case n == kinds+1:
		return Item{Do: see, Name: anyName(r), O: []api.Op{readOp(anyPath(r)), statOp(anyPath(r)), listOp(anyPath(r)), listOp("/")}[r.Intn(4)]}
	case n < kinds+5:
		return Item{Do: snap + n%3, Name: anyName(r)}
	}
	return Item{O: anyOp(r), Now: r.Intn(40)}
}
