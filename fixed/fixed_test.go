package fixed

import (
	"math"
	"strings"
	"testing"

	"permafrost/api"
)

// noWidths are widths that are none.
var noWidths = []int{0, 8, 9, -1, 63, 64, math.MinInt, math.MaxInt}

// greatest has the greatest number of each width, by the document's rule.
func greatest(width int) int {
	power := 1
	for range width {
		power *= 256
	}
	return power - 1
}

func TestMost(t *testing.T) { // P1.1
	for width := 1; width <= 7; width++ {
		if n := Most(width); n != greatest(width) {
			t.Errorf("width %d: %d", width, n)
		}
	}
	for _, width := range noWidths {
		if n := Most(width); n != -1 {
			t.Errorf("width %d: %d", width, n)
		}
	}
}

func TestPut(t *testing.T) { // P1.1
	cases := []struct {
		n, width int
		want     string
	}{
		{258, 2, "\x02\x01"},
		{258, 3, "\x02\x01\x00"},
		{0, 1, "\x00"},
		{0, 7, "\x00\x00\x00\x00\x00\x00\x00"},
		{255, 1, "\xff"},
		{0x010203040506, 6, "\x06\x05\x04\x03\x02\x01"},
		{0x01020304050607, 7, "\x07\x06\x05\x04\x03\x02\x01"},
		{1 << 40, 6, "\x00\x00\x00\x00\x00\x01"},
	}
	for _, c := range cases {
		if s := Put(c.n, c.width); s != c.want {
			t.Errorf("%d in %d: %q", c.n, c.width, s)
		}
	}
}

func TestPutEdges(t *testing.T) { // P1.1
	for width := 1; width <= 7; width++ {
		most := greatest(width)
		if s := Put(most, width); s != strings.Repeat("\xff", width) {
			t.Errorf("the greatest of %d: %q", width, s)
		}
		for _, n := range []int{most + 1, -1, math.MinInt, math.MaxInt} {
			if s := Put(n, width); s != "" {
				t.Errorf("%d in %d: %q", n, width, s)
			}
		}
	}
	for _, width := range noWidths {
		for _, n := range []int{0, 1, -1, math.MinInt, math.MaxInt} {
			if s := Put(n, width); s != "" {
				t.Errorf("%d in %d: %q", n, width, s)
			}
		}
	}
}

func TestText(t *testing.T) { // P1.1
	long := strings.Repeat("x", 65536)
	cases := []struct {
		s     string
		width int
		want  string
	}{
		{"", 1, "\x00"},
		{"", 7, "\x00\x00\x00\x00\x00\x00\x00"},
		{"abc", 1, "\x03abc"},
		{"abc", 2, "\x03\x00abc"},
		{"\x00\xff", 3, "\x02\x00\x00\x00\xff"},
		{long[:255], 1, "\xff" + long[:255]},
		{long[:256], 1, ""},
		{long[:256], 2, "\x00\x01" + long[:256]},
		{long[:65535], 2, "\xff\xff" + long[:65535]},
		{long, 2, ""},
		{long, 3, "\x00\x00\x01" + long},
	}
	for _, c := range cases {
		if s := Text(c.s, c.width); s != c.want {
			t.Errorf("%d bytes in %d: %d bytes", len(c.s), c.width, len(s))
		}
	}
	for _, width := range noWidths {
		if Text("", width) != "" || Text("abc", width) != "" {
			t.Errorf("width %d", width)
		}
	}
}

func TestReader(t *testing.T) { // P1.2
	r := Read("\x02\x01\x03abc\x02\x00de\xff\x00fg")
	if n := r.Number(2); n != 258 || r.Left() != 12 {
		t.Errorf("number: %d, %d left", n, r.Left())
	}
	if s := r.Text(1); s != "abc" || r.Left() != 8 {
		t.Errorf("text: %q, %d left", s, r.Left())
	}
	if s := r.Text(2); s != "de" || r.Left() != 4 {
		t.Errorf("text: %q, %d left", s, r.Left())
	}
	if s := r.Bytes(0); s != "" || r.Left() != 4 {
		t.Errorf("no bytes: %q, %d left", s, r.Left())
	}
	if s := r.Bytes(2); s != "\xff\x00" || r.Left() != 2 {
		t.Errorf("bytes: %q, %d left", s, r.Left())
	}
	if e := r.End(); e != api.ErrForm {
		t.Errorf("end with bytes left: %d", e)
	}
	if s := r.Bytes(2); s != "fg" || r.Left() != 0 || r.End() != api.OK {
		t.Errorf("that end is no error of the reader: %q, %d left, %d", s, r.Left(), r.End())
	}
	if s := r.Bytes(0); s != "" || r.End() != api.OK {
		t.Errorf("no bytes of none: %q, %d", s, r.End())
	}
}

func TestReaderEnd(t *testing.T) { // P1.2
	for n := range 5 {
		want := api.ErrForm
		if n == 0 {
			want = api.OK
		}
		if r := Read(strings.Repeat("\x00", n)); r.End() != want || r.Left() != n {
			t.Errorf("%d bytes left: %d, %d", n, r.End(), r.Left())
		}
	}
}

func TestReaderNumbers(t *testing.T) { // P1.2
	const s = "\x01\x02\x03\x04\x05\x06\x87"
	for i, want := range []int{1, 0x0201, 0x030201, 0x04030201, 0x0504030201, 0x060504030201, 0x87060504030201} {
		width := i + 1
		r := Read(s)
		if n := r.Number(width); n != want || r.Left() != 7-width {
			t.Errorf("width %d: %d, %d left", width, n, r.Left())
		}
		r = Read(s[:width])
		if n := r.Number(width); n != want || r.End() != api.OK {
			t.Errorf("width %d, nothing behind: %d, %d", width, n, r.End())
		}
		r = Read(s[:width-1])
		if n := r.Number(width); n != 0 || r.End() != api.ErrCut {
			t.Errorf("width %d, one byte less: %d, %d", width, n, r.End())
		}
	}
}

// inError takes from the front of "\x05ab" what can't be taken, and looks that nothing is, then and from then on.
func inError(t *testing.T, name string, want api.Errno, nothing func(r *Reader) bool) {
	t.Helper()
	r := Read("\x05ab")
	if !nothing(r) {
		t.Errorf("%s: something is taken", name)
	}
	for range 2 {
		if r.End() != want || r.Left() != 0 {
			t.Errorf("%s: %d, %d left", name, r.End(), r.Left())
		}
		if r.Number(1) != 0 || r.Text(1) != "" || r.Bytes(1) != "" || r.Bytes(0) != "" {
			t.Errorf("%s: something is taken behind the error", name)
		}
	}
}

func TestReaderErrors(t *testing.T) { // P1.2
	for _, n := range []int{4, 5, 1000, math.MaxInt} {
		inError(t, "too many bytes", api.ErrCut, func(r *Reader) bool { return r.Bytes(n) == "" })
	}
	for _, n := range []int{-1, -2, math.MinInt} {
		inError(t, "bytes below 0", api.ErrArg, func(r *Reader) bool { return r.Bytes(n) == "" })
	}
	for _, width := range []int{4, 5, 6, 7} {
		inError(t, "number, cut", api.ErrCut, func(r *Reader) bool { return r.Number(width) == 0 })
		inError(t, "text, its number cut", api.ErrCut, func(r *Reader) bool { return r.Text(width) == "" })
	}
	for _, width := range []int{1, 2, 3} {
		inError(t, "text, its bytes cut", api.ErrCut, func(r *Reader) bool { return r.Text(width) == "" })
	}
	for _, width := range noWidths {
		inError(t, "number of no width", api.ErrArg, func(r *Reader) bool { return r.Number(width) == 0 })
		inError(t, "text of no width", api.ErrArg, func(r *Reader) bool { return r.Text(width) == "" })
	}
}

func TestReaderKeepsTheFirstError(t *testing.T) { // P1.2
	r := Read("a")
	r.Bytes(2)
	r.Bytes(-1)
	r.Number(0)
	r.Text(8)
	if e := r.End(); e != api.ErrCut {
		t.Errorf("behind ErrCut: %d", e)
	}
	r = Read("a")
	r.Number(0)
	r.Bytes(2)
	r.Number(2)
	if e := r.End(); e != api.ErrArg {
		t.Errorf("behind ErrArg: %d", e)
	}
}

func TestReaderOfNothing(t *testing.T) { // P1.2
	r := Read("")
	if r == nil || r.Left() != 0 || r.End() != api.OK {
		t.Error("a reader of no bytes")
	}
	if r.Number(1) != 0 || r.End() != api.ErrCut {
		t.Error("a number of no bytes")
	}
	r = nil
	if r.Number(1) != 0 || r.Number(0) != 0 || r.Text(1) != "" || r.Text(0) != "" || r.Bytes(0) != "" || r.Bytes(1) != "" || r.Bytes(-1) != "" {
		t.Error("a reader that is nil takes something")
	}
	if r.Left() != 0 || r.End() != api.ErrArg {
		t.Errorf("a reader that is nil: %d left, %d", r.Left(), r.End())
	}
}

func TestReadersAreApart(t *testing.T) { // P1.2, R6
	a, b := Read("\x01\x02"), Read("\x01\x02")
	a.Bytes(3)
	if b.Left() != 2 || b.Number(2) != 0x0201 || b.End() != api.OK {
		t.Error("one reader's error is another's")
	}
}

func TestWhatIsPutIsTaken(t *testing.T) { // P1.3
	var all strings.Builder
	numbers := []int{0, 1, 127, 128, 255, 256, 65535, 65536, 1<<31 - 1, 1 << 31, 1 << 40, 1<<48 + 12345, 1<<56 - 1}
	texts := []string{"", "a", "\x00", "\xff\xfe", strings.Repeat("ab", 127), strings.Repeat("\x80", 300), strings.Repeat("z", 70000)}
	for width := 1; width <= 7; width++ {
		for _, n := range numbers {
			all.WriteString(Put(n, width))
		}
		for _, s := range texts {
			all.WriteString(Text(s, width))
		}
	}
	r := Read(all.String())
	for width := 1; width <= 7; width++ {
		for _, n := range numbers {
			if n > greatest(width) {
				continue
			}
			if got := r.Number(width); got != n {
				t.Errorf("%d in %d: %d", n, width, got)
			}
		}
		for _, s := range texts {
			if len(s) > greatest(width) {
				continue
			}
			if got := r.Text(width); got != s {
				t.Errorf("%d bytes in %d: %d bytes", len(s), width, len(got))
			}
		}
	}
	if e := r.End(); e != api.OK {
		t.Errorf("end: %d", e)
	}
}
