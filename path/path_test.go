package path

import (
	"math/rand"
	"regexp"
	"slices"
	"strings"
	"testing"

	"permafrost/api"
)

func long(n int) string { return strings.Repeat("n", n) }

// paths have their names beside them.
var paths = map[string][]string{
	"/":                                  nil,
	"/a":                                 {"a"},
	"/a/b":                               {"a", "b"},
	"/a/a/a":                             {"a", "a", "a"},
	"/abc/d/ef":                          {"abc", "d", "ef"},
	"/...":                               {"..."},
	"/.a/..b/a./b../.../....":            {".a", "..b", "a.", "b..", "...", "...."},
	"/. /..\n/ /\t":                      {". ", "..\n", " ", "\t"},
	"/\x01\xff/\\/\xc3\xa9/\xe2\x88\x95": {"\x01\xff", "\\", "\xc3\xa9", "\xe2\x88\x95"},
	"/" + long(254):                      {long(254)},
	"/" + long(255):                      {long(255)},
	"/a/" + long(255) + "/b":             {"a", long(255), "b"},
	"/" + strings.Repeat("\xff", 255):    {strings.Repeat("\xff", 255)},
}

// noPaths are none, each for a reason of its own.
var noPaths = []string{
	"", "a", "a/", "a/b", " /a", ".", "..", "./a", "\x00", "\x00/a",
	"//", "///", "//a", "/a/", "/a//", "/a//b", "/a/b/", "//a/b",
	"/.", "/..", "/./a", "/../a", "/a/.", "/a/..", "/a/./b", "/a/../b", "/a/b/..",
	"/\x00", "/\x00a", "/a\x00", "/a\x00b", "/a/\x00", "/a/b\x00/c", "/\x00/a", "/.\x00",
	"/" + long(256), "/a/" + long(256), "/" + long(256) + "/a", "/" + long(100000),
	strings.Repeat("/", 256), long(255),
}

func TestSplit(t *testing.T) { // P16.1
	for s, want := range paths {
		if l, e := Split(s); !slices.Equal(l, want) || e != api.OK {
			t.Errorf("%q: %q, %d", s, l, e)
		}
	}
	for _, s := range noPaths {
		if l, e := Split(s); len(l) != 0 || e != api.ErrName {
			t.Errorf("%q: %q, %d", s, l, e)
		}
	}
}

func TestJoin(t *testing.T) { // P16.1
	for want, l := range paths {
		if s := Join(l); s != want {
			t.Errorf("%q: %q", l, s)
		}
	}
	for _, c := range []struct {
		l    []string
		want string
	}{
		{nil, "/"},
		{[]string{}, "/"},
		{[]string{""}, "/"},
		{[]string{"", ""}, "//"},
		{[]string{"", "a/b"}, "//a/b"},
		{[]string{"a", "", "b"}, "/a//b"},
		{[]string{"/", "/"}, "////"},
		{[]string{".", "..", "\x00"}, "/./../\x00"},
		{[]string{long(300)}, "/" + long(300)},
	} {
		given := slices.Clone(c.l)
		if s := Join(c.l); s != c.want {
			t.Errorf("%q: %q", c.l, s)
		}
		if !slices.Equal(c.l, given) {
			t.Errorf("%q was changed: %q", given, c.l)
		}
	}
}

func TestParent(t *testing.T) { // P16.2
	for s, l := range paths {
		if s == "/" {
			continue
		}
		last := len(l) - 1
		want := "/" + strings.Join(l[:last], "/")
		if p, name, e := Parent(s); p != want || name != l[last] || e != api.OK {
			t.Errorf("%q: %q, %q, %d", s, p, name, e)
		}
	}
	for _, c := range [][3]string{{"/a", "/", "a"}, {"/a/b", "/a", "b"}, {"/a/b/c", "/a/b", "c"}} {
		if p, name, e := Parent(c[0]); p != c[1] || name != c[2] || e != api.OK {
			t.Errorf("%q: %q, %q, %d", c[0], p, name, e)
		}
	}
	if p, name, e := Parent("/"); p != "" || name != "" || e != api.ErrArg {
		t.Errorf("/: %q, %q, %d", p, name, e)
	}
	for _, s := range noPaths {
		if p, name, e := Parent(s); p != "" || name != "" || e != api.ErrName {
			t.Errorf("%q: %q, %q, %d", s, p, name, e)
		}
	}
}

func TestWithin(t *testing.T) { // P16.2
	for _, c := range []struct {
		a, b string
		want bool
	}{
		{"/", "/", true}, {"/", "/a", true}, {"/", "/a/b/c", true}, {"/a", "/", false},
		{"/a", "/a", true}, {"/a", "/a/b", true}, {"/a", "/a/b/c", true}, {"/a", "/a/a", true},
		{"/a", "/ab", false}, {"/ab", "/a", false}, {"/a", "/ab/a", false}, {"/a", "/b", false}, {"/a", "/b/a", false}, {"/a", "/A", false},
		{"/a/b", "/a", false}, {"/a/b", "/a/b", true}, {"/a/b", "/a/b/c", true}, {"/a/b", "/a/c", false},
		{"/a/b", "/a/bc", false}, {"/a/b", "/a/c/b", false}, {"/a/b", "/b/b", false}, {"/a/b", "/b/a/b", false},
		{"/a/b/c", "/a/b", false}, {"/a/b/c", "/a/b/d", false},
		{"/" + long(255), "/" + long(255) + "/a", true}, {"/" + long(254), "/" + long(255), false},
	} {
		if is := Within(c.a, c.b); is != c.want {
			t.Errorf("%q, %q: %v", c.a, c.b, is)
		}
	}
	for _, s := range noPaths {
		for p := range paths {
			if Within(s, p) || Within(p, s) {
				t.Errorf("%q, %q", s, p)
			}
		}
		if Within(s, s) || Within(s, s+"/a") || Within("/a", "/a/"+s+"/") {
			t.Errorf("%q", s)
		}
	}
}

// form is a path's, by the document's words, but for the names that are none.
var form = regexp.MustCompile(`(?s)^(/|(/[^/\x00]{1,255})+)$`)

func isPath(s string) bool {
	return form.MatchString(s) && !strings.Contains(s+"/", "/./") && !strings.Contains(s+"/", "/../")
}

// small has all texts of few bytes that a path hangs on.
func small(most int) []string {
	all := []string{""}
	for from := 0; most > 0; most-- {
		to := len(all)
		for _, s := range all[from:to] {
			for _, c := range []string{"/", ".", "a", "b", "\x00"} {
				all = append(all, s+c)
			}
		}
		from = to
	}
	return all
}

func TestAllSmallTexts(t *testing.T) { // P16.1 to P16.3
	for _, s := range small(7) {
		l, e := Split(s)
		if is := isPath(s); is != (e == api.OK) || !is && (e != api.ErrName || len(l) != 0) {
			t.Fatalf("%q: %q, %d", s, l, e)
		}
		p, name, ep := Parent(s)
		switch {
		case e != api.OK:
			if p != "" || name != "" || ep != e {
				t.Fatalf("%q: parent: %q, %q, %d", s, p, name, ep)
			}
		case Join(l) != s:
			t.Fatalf("%q: %q: %q", s, l, Join(l))
		case s != "/":
			if !isPath(p) || strings.TrimSuffix(p, "/")+"/"+name != s || strings.Contains(name, "/") || ep != api.OK {
				t.Fatalf("%q: parent: %q, %q, %d", s, p, name, ep)
			}
		}
	}
}

func TestAllSmallPairs(t *testing.T) { // P16.2
	all := small(4)
	for _, a := range all {
		for _, b := range all {
			want := isPath(a) && isPath(b) && (a == "/" || strings.HasPrefix(b+"/", a+"/"))
			if Within(a, b) != want {
				t.Fatalf("%q, %q: %v", a, b, !want)
			}
		}
	}
}

func TestAnyNames(t *testing.T) { // P16.3: what was joined of names is split into them
	r := rand.New(rand.NewSource(16))
	for range 3000 {
		var l []string
		for range r.Intn(8) {
			b := make([]byte, 3+r.Intn(253))
			for i := range b {
				b[i] = byte(1 + r.Intn(255))
				if b[i] == '/' {
					b[i] = '.'
				}
			}
			b[0] = 'x'
			l = append(l, string(b))
		}
		s := Join(l)
		back, e := Split(s)
		if !slices.Equal(back, l) || e != api.OK {
			t.Fatalf("%q: %q, %d", l, back, e)
		}
		if !Within(s, s) || !Within("/", s) || Within(s, "/") != (len(l) == 0) {
			t.Fatalf("%q", s)
		}
		for i := range back { // R5: an answer is the asker's own
			back[i] = "?"
		}
		if again, _ := Split(s); !slices.Equal(again, l) {
			t.Fatalf("%q: %q", l, again)
		}
	}
}

func TestManyNames(t *testing.T) { // P16.1: a path has no most of names
	l := slices.Repeat([]string{"a"}, 100000)
	s := Join(l)
	if back, e := Split(s); !slices.Equal(back, l) || e != api.OK || len(s) != 200000 {
		t.Errorf("%d names of %d bytes, %d", len(back), len(s), e)
	}
	if p, name, e := Parent(s); p != s[:len(s)-2] || name != "a" || e != api.OK || !Within(p, s) || Within(s, p) {
		t.Errorf("%d bytes, %q, %d", len(p), name, e)
	}
	if l, e := Split(s + "/"); len(l) != 0 || e != api.ErrName {
		t.Errorf("%d names, %d", len(l), e)
	}
}
