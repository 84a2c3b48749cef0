package model

import (
	"fmt"
	"maps"
	"math"
	"math/rand"
	"slices"
	"strings"
	"testing"

	"permafrost/api"
	"permafrost/path"
)

func create(p string) api.Op { return api.Op{Do: api.Create, Path: p} }

func mkdir(p string) api.Op { return api.Op{Do: api.Mkdir, Path: p} }

func link(p string, to string) api.Op { return api.Op{Do: api.Link, Path: p, To: to} }

func unlink(p string) api.Op { return api.Op{Do: api.Unlink, Path: p} }

func rmdir(p string) api.Op { return api.Op{Do: api.Rmdir, Path: p} }

func rename(p string, to string) api.Op { return api.Op{Do: api.Rename, Path: p, To: to} }

func read(p string, off int, n int) api.Op {
	return api.Op{Do: api.Read, Path: p, Off: off, Len: n}
}

func write(p string, off int, data string) api.Op {
	return api.Op{Do: api.Write, Path: p, Off: off, Data: data}
}

func truncate(p string, n int) api.Op { return api.Op{Do: api.Truncate, Path: p, Len: n} }

func stat(p string) api.Op { return api.Op{Do: api.Stat, Path: p} }

func list(p string) api.Op { return api.Op{Do: api.List, Path: p} }

// same tells whether two answers are, a list that is nil being like an empty one.
func same(a api.Answer, b api.Answer) bool {
	return a.Code == b.Code && a.N == b.N && a.Data == b.Data && slices.Equal(a.Names, b.Names)
}

// made is a tree to which all of these was done.
func made(t *testing.T, ops ...api.Op) *Tree {
	t.Helper()
	m := New()
	for _, o := range ops {
		if a := m.Do(o); a.Code != api.OK {
			t.Fatalf("%v: %v", o, a)
		}
	}
	return m
}

// small is the tree that the cases below are asked of: /d has f, which is g too,
// /d/e and /v have nothing.
func small(t *testing.T) *Tree {
	t.Helper()
	return made(t, mkdir("/d"), mkdir("/d/e"), mkdir("/v"), create("/d/f"), write("/d/f", 0, "abcdef"), link("/d/f", "/g"))
}

// told is all that a tree answers of itself, below a path.
func told(m *Tree, p string) string {
	all := fmt.Sprintf("%q %v %v\n", p, m.Do(stat(p)), m.Do(read(p, 0, math.MaxInt)))
	for _, name := range m.Do(list(p)).Names {
		all += told(m, strings.TrimSuffix(p, "/")+"/"+name)
	}
	return all
}

// check asks m for o, which has to be answered so; where it is refused, nothing
// may have changed.
func check(t *testing.T, m *Tree, o api.Op, want api.Answer) {
	t.Helper()
	was := told(m, "/")
	if a := m.Do(o); !same(a, want) {
		t.Errorf("%v: %v, want %v", o, a, want)
	}
	if now := told(m, "/"); want.Code != api.OK && now != was {
		t.Errorf("%v: was\n%sis\n%s", o, was, now)
	}
}

func count(t *testing.T, m *Tree, files int, dirs int, bytes int) {
	t.Helper()
	if a, b, c := m.Count(); a != files || b != dirs || c != bytes {
		t.Errorf("Count: %d, %d, %d, want %d, %d, %d", a, b, c, files, dirs, bytes)
	}
}

func TestNew(t *testing.T) { // P17.1
	m := New()
	count(t, m, 0, 1, 0)
	check(t, m, list("/"), api.Answer{})
	check(t, m, stat("/"), api.Answer{Data: "dir"})
	other := New()
	m.Do(create("/a"))
	count(t, other, 0, 1, 0)
}

func TestNothing(t *testing.T) { // P17.1
	for i, m := range []*Tree{nil, {}} {
		for do := -2; do < 14; do++ {
			for _, p := range []string{"", "/", "/a", "a"} {
				o := api.Op{Do: do, Path: p, To: "/b", Data: "x", Len: 1}
				if a := m.Do(o); !same(a, api.Answer{Code: api.ErrArg}) {
					t.Errorf("%d: %v: %v", i, o, a)
				}
			}
		}
		if m.Copy() != nil {
			t.Errorf("%d: has a copy", i)
		}
		count(t, m, 0, 0, 0)
	}
}

func TestExample(t *testing.T) { // P17.2
	m := made(t, create("/a"), link("/a", "/b"), write("/a", 0, "text"))
	check(t, m, read("/b", 0, 4), api.Answer{N: 4, Data: "text"})
}

// leadsNowhere has paths that lead nowhere in the small tree, and why.
var leadsNowhere = map[string]api.Errno{
	"":                             api.ErrName,
	"d":                            api.ErrName,
	"//":                           api.ErrName,
	"/d/":                          api.ErrName,
	"/d//f":                        api.ErrName,
	"/.":                           api.ErrName,
	"/d/..":                        api.ErrName,
	"/d/./f":                       api.ErrName,
	"/z/../d":                      api.ErrName, // the path comes ahead of what it leads to
	"/g/.":                         api.ErrName,
	"/d\x00":                       api.ErrName,
	"/" + strings.Repeat("n", 256): api.ErrName,
	"/" + strings.Repeat("n", 255): api.ErrNone,
	"/z":                           api.ErrNone,
	"/f":                           api.ErrNone,
	"/G":                           api.ErrNone,
	"/d/g":                         api.ErrNone,
	"/d/e/x":                       api.ErrNone,
	"/z/f":                         api.ErrNone,
	"/z/z/z":                       api.ErrNone,
	"/g/x":                         api.ErrNotDir,
	"/g/g":                         api.ErrNotDir,
	"/g/x/y":                       api.ErrNotDir, // what is asked of a file, whatever comes behind
	"/d/f/x":                       api.ErrNotDir,
	"/d/f/x/y/z":                   api.ErrNotDir,
}

func TestLeadsNowhere(t *testing.T) { // P17.2
	m := small(t)
	for p, e := range leadsNowhere {
		for _, o := range []api.Op{
			link(p, "/x"), link(p, "junk"), link(p, "/"), link(p, p),
			unlink(p), rmdir(p),
			rename(p, "/x"), rename(p, "junk"), rename(p, "/"), rename(p, p), rename(p, p+"/x"),
			read(p, 0, 1), read(p, -1, -1),
			write(p, 0, "x"), write(p, 0, ""), write(p, -1, "x"), write(p, api.MaxFile, "x"),
			truncate(p, 1), truncate(p, -1), truncate(p, api.MaxFile+1),
			stat(p), list(p),
		} {
			check(t, m, o, api.Answer{Code: e})
		}
	}
}

// notFree has paths that are not free in the small tree, and why. What leads
// nowhere for its last name alone is free.
var notFree = map[string]api.Errno{
	"":                             api.ErrName,
	"x":                            api.ErrName,
	"x/":                           api.ErrName,
	"//":                           api.ErrName,
	"/x/":                          api.ErrName,
	"/d//x":                        api.ErrName,
	"/.":                           api.ErrName,
	"/d/..":                        api.ErrName,
	"/g/..":                        api.ErrName,
	"/z/.":                         api.ErrName,
	"/x\x00":                       api.ErrName,
	"/" + strings.Repeat("n", 256): api.ErrName,
	"/":                            api.ErrThere,
	"/d":                           api.ErrThere,
	"/g":                           api.ErrThere,
	"/d/e":                         api.ErrThere,
	"/d/f":                         api.ErrThere,
	"/z/x":                         api.ErrNone,
	"/d/z/x":                       api.ErrNone,
	"/z/z/x":                       api.ErrNone,
	"/g/x":                         api.ErrNotDir,
	"/g/g":                         api.ErrNotDir,
	"/g/x/y":                       api.ErrNotDir,
	"/d/f/x":                       api.ErrNotDir,
	"/d/f/x/y":                     api.ErrNotDir,
}

func TestNotFree(t *testing.T) { // P17.2
	m := small(t)
	for p, e := range notFree {
		for _, o := range []api.Op{create(p), mkdir(p), link("/d/f", p), link("/g", p), rename("/v", p)} {
			check(t, m, o, api.Answer{Code: e})
		}
	}
}

func TestFree(t *testing.T) { // P17.2
	long := strings.Repeat("n", 255)
	for _, p := range []string{"/x", "/d/x", "/d/e/x", "/d/g", "/v/v", "/f", "/D", "/ ", "/...", "/\xff", "/" + long, "/d/e/" + long} {
		m := small(t)
		check(t, m, create(p), api.Answer{})
		check(t, m, stat(p), api.Answer{Data: "file", Names: []string{"1"}})
		check(t, m, read(p, 0, 9), api.Answer{})
		check(t, m, create(p), api.Answer{Code: api.ErrThere})
		count(t, m, 2, 4, 6)

		m = small(t)
		check(t, m, mkdir(p), api.Answer{})
		check(t, m, stat(p), api.Answer{Data: "dir"})
		check(t, m, list(p), api.Answer{})
		check(t, m, create(p+"/x"), api.Answer{})
		check(t, m, list(p), api.Answer{Names: []string{"x"}})
		check(t, m, stat(p), api.Answer{N: 1, Data: "dir"})
		count(t, m, 2, 5, 6)

		m = small(t)
		check(t, m, link("/g", p), api.Answer{})
		check(t, m, stat(p), api.Answer{N: 6, Data: "file", Names: []string{"3"}})
		check(t, m, stat("/d/f"), api.Answer{N: 6, Data: "file", Names: []string{"3"}})
		count(t, m, 1, 4, 6)

		m = small(t)
		check(t, m, rename("/g", p), api.Answer{})
		check(t, m, stat("/g"), api.Answer{Code: api.ErrNone})
		check(t, m, stat(p), api.Answer{N: 6, Data: "file", Names: []string{"2"}})
		count(t, m, 1, 4, 6)
	}
}

func TestLink(t *testing.T) { // P17.2
	m := small(t)
	for _, o := range []api.Op{link("/d", "/x"), link("/", "/x"), link("/d/e", "/d/e/x"), link("/d", "junk"), link("/v", "/v"), link("/", "/")} {
		check(t, m, o, api.Answer{Code: api.ErrDir})
	}
	check(t, m, link("/g", "/g"), api.Answer{Code: api.ErrThere})
	check(t, m, link("/g", "/v/h"), api.Answer{})
	for i, p := range []string{"/g", "/d/f", "/v/h"} {
		check(t, m, write(p, i, "XYZ"[i:i+1]), api.Answer{N: 1})
		for _, other := range []string{"/g", "/d/f", "/v/h"} {
			check(t, m, read(other, 0, 99), api.Answer{N: 6, Data: "XYZ"[:i+1] + "abcdef"[i+1:]})
			check(t, m, stat(other), api.Answer{N: 6, Data: "file", Names: []string{"3"}})
		}
	}
	count(t, m, 1, 4, 6)
}

func TestUnlink(t *testing.T) { // P17.2
	m := small(t)
	for _, p := range []string{"/", "/d", "/d/e", "/v"} {
		check(t, m, unlink(p), api.Answer{Code: api.ErrDir})
	}
	check(t, m, unlink("/d/f"), api.Answer{})
	check(t, m, unlink("/d/f"), api.Answer{Code: api.ErrNone})
	check(t, m, list("/d"), api.Answer{Names: []string{"e"}})
	check(t, m, read("/g", 0, 9), api.Answer{N: 6, Data: "abcdef"})
	check(t, m, stat("/g"), api.Answer{N: 6, Data: "file", Names: []string{"1"}})
	count(t, m, 1, 4, 6)
	check(t, m, unlink("/g"), api.Answer{})
	check(t, m, list("/"), api.Answer{Names: []string{"d", "v"}})
	count(t, m, 0, 4, 0)
	check(t, m, create("/g"), api.Answer{}) // another one
	check(t, m, stat("/g"), api.Answer{Data: "file", Names: []string{"1"}})
	count(t, m, 1, 4, 0)
}

func TestRmdir(t *testing.T) { // P17.2
	m := small(t)
	check(t, m, rmdir("/"), api.Answer{Code: api.ErrArg})
	check(t, New(), rmdir("/"), api.Answer{Code: api.ErrArg})
	check(t, m, rmdir("/d"), api.Answer{Code: api.ErrKept})
	check(t, m, rmdir("/g"), api.Answer{Code: api.ErrNotDir})
	check(t, m, rmdir("/d/f"), api.Answer{Code: api.ErrNotDir})
	check(t, m, rmdir("/v"), api.Answer{})
	check(t, m, rmdir("/v"), api.Answer{Code: api.ErrNone})
	check(t, m, rmdir("/d/e"), api.Answer{})
	check(t, m, rmdir("/d"), api.Answer{Code: api.ErrKept}) // a file is an entry, too
	count(t, m, 1, 2, 6)
	check(t, m, unlink("/d/f"), api.Answer{})
	check(t, m, rmdir("/d"), api.Answer{})
	check(t, m, list("/"), api.Answer{Names: []string{"g"}})
	count(t, m, 1, 1, 6)
	check(t, m, create("/d"), api.Answer{}) // the name is free again
}

func TestRename(t *testing.T) { // P17.2
	m := small(t)
	for _, to := range []string{"/x", "/", "junk", "/z/x", "/g"} {
		check(t, m, rename("/", to), api.Answer{Code: api.ErrArg})
	}
	for _, c := range [][2]string{
		{"/d", "/d"}, {"/d", "/d/x"}, {"/d", "/d/f"}, {"/d", "/d/f/x"}, {"/d", "/d/z/x"}, {"/d/e", "/d/e/x"},
		{"/g", "/g"}, {"/g", "/g/x"}, {"/d/f", "/d/f"}, {"/d/f", "/d/f/x/y"}, // names alone count
	} {
		check(t, m, rename(c[0], c[1]), api.Answer{Code: api.ErrArg})
	}
	for _, c := range [][2]string{{"/g", "/d/f"}, {"/d/f", "/g"}, {"/v", "/d"}, {"/d/e", "/d"}, {"/d/e", "/"}, {"/v", "/g"}} {
		check(t, m, rename(c[0], c[1]), api.Answer{Code: api.ErrThere})
	}
	check(t, m, rename("/d", "/dd"), api.Answer{}) // within it by its bytes alone
	check(t, m, list("/"), api.Answer{Names: []string{"dd", "g", "v"}})
	check(t, m, list("/dd"), api.Answer{Names: []string{"e", "f"}})
	check(t, m, rename("/dd", "/v/d"), api.Answer{})
	check(t, m, read("/v/d/f", 0, 9), api.Answer{N: 6, Data: "abcdef"})
	check(t, m, stat("/v/d/f"), api.Answer{N: 6, Data: "file", Names: []string{"2"}})
	check(t, m, rename("/v/d/f", "/v/d/h"), api.Answer{}) // in the same directory
	check(t, m, list("/v/d"), api.Answer{Names: []string{"e", "h"}})
	check(t, m, rename("/v/d/e", "/e"), api.Answer{})
	check(t, m, list("/"), api.Answer{Names: []string{"e", "g", "v"}})
	check(t, m, list("/v/d"), api.Answer{Names: []string{"h"}})
	check(t, m, write("/g", 0, "X"), api.Answer{N: 1})
	check(t, m, read("/v/d/h", 0, 1), api.Answer{N: 1, Data: "X"})
	count(t, m, 1, 4, 6)
}

func TestRead(t *testing.T) { // P17.2
	m := small(t)
	for _, o := range []api.Op{read("/", 0, 1), read("/d", 0, 1), read("/d", -1, 1), read("/v", 0, -1)} {
		check(t, m, o, api.Answer{Code: api.ErrDir})
	}
	for _, o := range []api.Op{read("/g", -1, 1), read("/g", 0, -1), read("/g", -1, -1), read("/g", math.MinInt, 1), read("/g", 0, math.MinInt), read("/g", 99, -1)} {
		check(t, m, o, api.Answer{Code: api.ErrArg})
	}
	for _, c := range []struct {
		off, n int
		want   string
	}{
		{0, 6, "abcdef"}, {0, 7, "abcdef"}, {0, math.MaxInt, "abcdef"}, {0, 5, "abcde"}, {0, 1, "a"}, {0, 0, ""},
		{1, 5, "bcdef"}, {1, math.MaxInt, "bcdef"}, {2, 3, "cde"}, {5, 1, "f"}, {5, 9, "f"}, {5, 0, ""},
		{6, 1, ""}, {7, 1, ""}, {math.MaxInt, math.MaxInt, ""}, {math.MaxInt, 0, ""},
	} {
		check(t, m, read("/d/f", c.off, c.n), api.Answer{N: len(c.want), Data: c.want})
	}
}

func TestWrite(t *testing.T) { // P17.2
	m := small(t)
	for _, o := range []api.Op{write("/", 0, "x"), write("/d", 0, "x"), write("/d", -1, "x"), write("/v", api.MaxFile, "x"), write("/d", 0, "")} {
		check(t, m, o, api.Answer{Code: api.ErrDir})
	}
	big := strings.Repeat("x", api.MaxFile+1)
	for _, o := range []api.Op{write("/g", -1, "x"), write("/g", -1, ""), write("/g", math.MinInt, "x"), write("/g", -1, big)} {
		check(t, m, o, api.Answer{Code: api.ErrArg})
	}
	for _, o := range []api.Op{
		write("/g", 0, big), write("/g", api.MaxFile, "x"), write("/g", api.MaxFile-1, "xy"), write("/g", 1, big[1:]),
		write("/g", api.MaxFile+1, ""), write("/g", math.MaxInt, ""), write("/g", math.MaxInt, "x"), write("/g", math.MaxInt, big),
	} {
		check(t, m, o, api.Answer{Code: api.ErrBig})
	}
	for _, c := range []struct {
		off        int
		data, want string
	}{
		{0, "X", "Xbcdef"}, {0, "XYZ", "XYZdef"}, {0, "UVWXYZ", "UVWXYZ"}, {0, "TUVWXYZ", "TUVWXYZ"},
		{2, "X", "abXdef"}, {5, "X", "abcdeX"}, {5, "XY", "abcdeXY"}, {3, "XYZ", "abcXYZ"},
		{6, "X", "abcdefX"}, {7, "X", "abcdef\x00X"}, {9, "XY", "abcdef\x00\x00\x00XY"}, {1, "\x00", "a\x00cdef"},
		{0, "", "abcdef"}, {3, "", "abcdef"}, {6, "", "abcdef"}, {7, "", "abcdef"}, {api.MaxFile, "", "abcdef"},
		{0, big[1:], big[1:]}, {1, big[2:], "a" + big[2:]}, {api.MaxFile - 1, "x", "abcdef" + strings.Repeat("\x00", api.MaxFile-7) + "x"},
	} {
		m := small(t)
		check(t, m, write("/g", c.off, c.data), api.Answer{N: len(c.data)})
		check(t, m, read("/d/f", 0, math.MaxInt), api.Answer{N: len(c.want), Data: c.want})
		count(t, m, 1, 4, len(c.want))
	}
}

func TestTruncate(t *testing.T) { // P17.2
	m := small(t)
	for _, o := range []api.Op{truncate("/", 1), truncate("/d", 1), truncate("/d", -1), truncate("/v", api.MaxFile+1)} {
		check(t, m, o, api.Answer{Code: api.ErrDir})
	}
	for _, n := range []int{-1, math.MinInt} {
		check(t, m, truncate("/g", n), api.Answer{Code: api.ErrArg})
	}
	for _, n := range []int{api.MaxFile + 1, math.MaxInt} {
		check(t, m, truncate("/g", n), api.Answer{Code: api.ErrBig})
	}
	for _, n := range []int{0, 1, 5, 6, 7, 300, api.MaxFile} {
		m := small(t)
		want := ("abcdef" + strings.Repeat("\x00", api.MaxFile))[:n]
		check(t, m, truncate("/d/f", n), api.Answer{})
		check(t, m, read("/g", 0, math.MaxInt), api.Answer{N: n, Data: want})
		count(t, m, 1, 4, n)
	}
	check(t, m, truncate("/g", 2), api.Answer{}) // what was cut off does not come back
	check(t, m, truncate("/g", 4), api.Answer{})
	check(t, m, read("/g", 0, 9), api.Answer{N: 4, Data: "ab\x00\x00"})
	check(t, m, truncate("/g", 0), api.Answer{})
	check(t, m, write("/g", 2, "c"), api.Answer{N: 1})
	check(t, m, read("/g", 0, 9), api.Answer{N: 3, Data: "\x00\x00c"})
}

func TestStat(t *testing.T) { // P17.2
	m := small(t)
	check(t, m, stat("/"), api.Answer{N: 3, Data: "dir"})
	check(t, m, stat("/d"), api.Answer{N: 2, Data: "dir"})
	check(t, m, stat("/v"), api.Answer{Data: "dir"})
	check(t, m, stat("/d/f"), api.Answer{N: 6, Data: "file", Names: []string{"2"}})
	for i := range 10 {
		check(t, m, link("/g", fmt.Sprint("/v/", i)), api.Answer{})
	}
	check(t, m, stat("/g"), api.Answer{N: 6, Data: "file", Names: []string{"12"}})
	check(t, m, stat("/v"), api.Answer{N: 10, Data: "dir"})
}

func TestList(t *testing.T) { // P17.2
	m := small(t)
	check(t, m, list("/"), api.Answer{Names: []string{"d", "g", "v"}})
	check(t, m, list("/v"), api.Answer{})
	check(t, m, list("/g"), api.Answer{Code: api.ErrNotDir})
	check(t, m, list("/d/f"), api.Answer{Code: api.ErrNotDir})
	want := []string{" ", "...", "A", "B", "a", "aa", "ab", "b", "\x80", "\xff"}
	for _, i := range rand.New(rand.NewSource(17)).Perm(len(want)) {
		check(t, m, create("/v/"+want[i]), api.Answer{})
	}
	check(t, m, list("/v"), api.Answer{Names: want})
	clear(m.Do(list("/v")).Names) // R5
	check(t, m, list("/v"), api.Answer{Names: want})
}

func TestOtherOps(t *testing.T) { // P17.2
	m := small(t)
	for _, do := range []int{-1, 11, 12, math.MinInt, math.MaxInt} {
		for _, p := range []string{"/", "/g", "junk", "/x"} {
			check(t, m, api.Op{Do: do, Path: p, To: "/x"}, api.Answer{Code: api.ErrArg})
		}
	}
}

// What an op has no use for does not count.
func TestFieldsThatAreNotAsked(t *testing.T) { // P17.2
	for _, o := range []api.Op{create("/x"), mkdir("/x"), unlink("/g"), rmdir("/v"), link("/g", "/x"), rename("/g", "/x"), stat("/g"), stat("/d"), list("/d"), read("/g", 1, 2), write("/g", 1, "x"), truncate("/g", 2)} {
		plain, full := small(t), small(t)
		other := o
		if o.To == "" {
			other.To = "junk"
		}
		if o.Do != api.Read && o.Do != api.Write {
			other.Off = -1
		}
		if o.Do != api.Read && o.Do != api.Truncate {
			other.Len = -1
		}
		if o.Do != api.Write {
			other.Data = "junk"
		}
		if a, b := plain.Do(o), full.Do(other); !same(a, b) || told(plain, "/") != told(full, "/") {
			t.Errorf("%v: %v, %v", o, a, b)
		}
	}
}

func TestCopy(t *testing.T) { // P17.1
	ops := []api.Op{create("/x"), mkdir("/x"), link("/g", "/v/x"), unlink("/g"), unlink("/d/f"), rmdir("/v"), rmdir("/d/e"), rename("/d", "/x"), rename("/g", "/d/e/g"), write("/g", 2, "X"), truncate("/d/f", 9), truncate("/g", 0)}
	for _, o := range ops {
		m := small(t)
		c := m.Copy()
		was := told(m, "/")
		if now := told(c, "/"); now != was {
			t.Fatalf("a copy: %s", now)
		}
		if a := c.Do(o); a.Code != api.OK || told(m, "/") != was {
			t.Errorf("%v of the copy: %v, %s", o, a, told(m, "/"))
		}
		if a := m.Do(o); a.Code != api.OK || told(m, "/") != told(c, "/") {
			t.Errorf("%v: %v, %s", o, a, told(m, "/"))
		}
	}
	m := small(t)
	c := m.Copy()
	was := told(c, "/")
	for _, o := range ops {
		m.Do(o)
	}
	if now := told(c, "/"); now != was {
		t.Errorf("the copy was changed: %s", now)
	}
	count(t, c, 1, 4, 6)
	check(t, c, create("/y"), api.Answer{}) // a thing of its own
	check(t, c, write("/y", 0, "Y"), api.Answer{N: 1})
	check(t, c, read("/d/f", 0, 1), api.Answer{N: 1, Data: "a"})
	check(t, c, unlink("/g"), api.Answer{}) // and entries that are of one file still
	check(t, c, stat("/d/f"), api.Answer{N: 6, Data: "file", Names: []string{"1"}})
}

// R1: a tree may be as high as there are renames.
func TestHighTree(t *testing.T) {
	const high = 200000
	m := made(t, mkdir("/a"))
	for range high {
		if m.Do(mkdir("/b")).Code+m.Do(rename("/a", "/b/a")).Code+m.Do(rename("/b", "/a")).Code != api.OK {
			t.Fatal("the tree does not grow")
		}
	}
	count(t, m.Copy(), 0, high+2, 0)
	deep := strings.Repeat("/a", high+1)
	if a := m.Do(create(deep + "/f")); a.Code != api.OK {
		t.Error(a)
	}
	if a := m.Do(stat(deep)); !same(a, api.Answer{N: 1, Data: "dir"}) {
		t.Error(a)
	}
}

// plain is a tree by the document's words: files by the paths of all their
// entries, directories as nil.
type plain map[string]*[]byte

// leads tells what a path leads to.
func (m plain) leads(p string) (*[]byte, api.Errno) {
	names, e := path.Split(p)
	if e != api.OK {
		return nil, e
	}
	at := ""
	for _, name := range names {
		if m[at] != nil {
			return nil, api.ErrNotDir
		}
		at += "/" + name
		if _, is := m[at]; !is {
			return nil, api.ErrNone
		}
	}
	return m[at], api.OK
}

func (m plain) free(p string) api.Errno {
	names, e := path.Split(p)
	if e != api.OK {
		return e
	}
	if len(names) == 0 {
		return api.ErrThere
	}
	up, e := m.leads(path.Join(names[:len(names)-1]))
	if e != api.OK {
		return e
	}
	if up != nil {
		return api.ErrNotDir
	}
	if _, is := m[p]; is {
		return api.ErrThere
	}
	return api.OK
}

func (m plain) names(dir string) []string {
	var l []string
	for p := range m {
		if up, name, _ := path.Parent(p); up == dir {
			l = append(l, name)
		}
	}
	slices.Sort(l)
	return l
}

func (m plain) links(f *[]byte) int {
	n := 0
	for _, other := range m {
		if other == f {
			n++
		}
	}
	return n
}

// do asks first what every op but Create and Mkdir asks.
func (m plain) do(o api.Op) api.Answer {
	no := func(e api.Errno) api.Answer { return api.Answer{Code: e} }
	if o.Do < 0 || o.Do > 10 || o.Path == "/" && (o.Do == api.Rmdir || o.Do == api.Rename) {
		return no(api.ErrArg)
	}
	if o.Do == api.Create || o.Do == api.Mkdir {
		if e := m.free(o.Path); e != api.OK {
			return no(e)
		}
		m[o.Path] = nil
		if o.Do == api.Create {
			m[o.Path] = &[]byte{}
		}
		return api.Answer{}
	}
	f, e := m.leads(o.Path)
	if e != api.OK {
		return no(e)
	}
	switch o.Do {
	case api.Link, api.Unlink, api.Read, api.Write, api.Truncate:
		if f == nil {
			return no(api.ErrDir)
		}
		return m.doFile(o, f)
	case api.Stat:
		if f != nil {
			return api.Answer{N: len(*f), Data: "file", Names: []string{fmt.Sprint(m.links(f))}}
		}
		return api.Answer{N: len(m.names(o.Path)), Data: "dir"}
	case api.Rename:
		return m.doRename(o)
	}
	if f != nil {
		return no(api.ErrNotDir)
	}
	if o.Do == api.List {
		return api.Answer{Names: m.names(o.Path)}
	}
	if len(m.names(o.Path)) > 0 {
		return no(api.ErrKept)
	}
	delete(m, o.Path)
	return api.Answer{}
}

func (m plain) doRename(o api.Op) api.Answer {
	if path.Within(o.Path, o.To) {
		return api.Answer{Code: api.ErrArg}
	}
	if e := m.free(o.To); e != api.OK {
		return api.Answer{Code: e}
	}
	moved := plain{}
	for p, f := range m {
		if path.Within(o.Path, p) {
			moved[o.To+p[len(o.Path):]] = f
			delete(m, p)
		}
	}
	for p, f := range moved {
		m[p] = f
	}
	return api.Answer{}
}

func (m plain) doFile(o api.Op, f *[]byte) api.Answer {
	switch o.Do {
	case api.Link:
		e := m.free(o.To)
		if e == api.OK {
			m[o.To] = f
		}
		return api.Answer{Code: e}
	case api.Unlink:
		delete(m, o.Path)
		return api.Answer{}
	case api.Read:
		if o.Off < 0 || o.Len < 0 {
			return api.Answer{Code: api.ErrArg}
		}
		s := ""
		for i := o.Off; i < len(*f) && len(s) < o.Len; i++ {
			s += string((*f)[i : i+1])
		}
		return api.Answer{N: len(s), Data: s}
	case api.Truncate:
		if o.Len < 0 {
			return api.Answer{Code: api.ErrArg}
		}
		if o.Len > 16384 {
			return api.Answer{Code: api.ErrBig}
		}
		grow(f, o.Len)
		*f = (*f)[:o.Len:o.Len]
		return api.Answer{}
	}
	if o.Off < 0 {
		return api.Answer{Code: api.ErrArg}
	}
	if o.Off > 16384 || o.Off+len(o.Data) > 16384 {
		return api.Answer{Code: api.ErrBig}
	}
	if o.Data != "" {
		grow(f, o.Off+len(o.Data))
		copy((*f)[o.Off:], o.Data)
	}
	return api.Answer{N: len(o.Data)}
}

// grow puts bytes 0 behind a file that has less than n.
func grow(f *[]byte, n int) {
	for len(*f) < n {
		*f = append(*f, 0)
	}
}

func (m plain) twin() plain {
	files := map[*[]byte]*[]byte{nil: nil}
	c := plain{}
	for p, f := range m {
		if _, is := files[f]; !is {
			s := slices.Clone(*f)
			files[f] = &s
		}
		c[p] = files[f]
	}
	return c
}

func (m plain) count() (int, int, int) {
	files, dirs, bytes := map[*[]byte]bool{}, 1, 0
	for _, f := range m {
		switch {
		case f == nil:
			dirs++
		case !files[f]:
			files[f] = true
			bytes += len(*f)
		}
	}
	return len(files), dirs, bytes
}

// anyPath is most often one that could lead somewhere.
func anyPath(r *rand.Rand) string {
	if r.Intn(30) == 0 {
		return []string{"/", "", "a", "//", "/a/", "/a/..", "/a/b/c/d/a/b", "/\x00"}[r.Intn(8)]
	}
	p := ""
	for range 1 + r.Intn(4)*r.Intn(4)/3 {
		p += "/" + string("abcd"[r.Intn(4)])
	}
	return p
}

func anyOp(r *rand.Rand) api.Op {
	numbers := []int{0, 0, 0, 1, 2, 3, 5, 8, 300, 16383, 16384, 16385, -1, math.MinInt, math.MaxInt, r.Intn(20)}
	return api.Op{
		Do: r.Intn(12) - r.Intn(12)/11, Path: anyPath(r), To: anyPath(r),
		Off: numbers[r.Intn(len(numbers))], Len: numbers[r.Intn(len(numbers))],
		Data: strings.Repeat(fmt.Sprint(r.Intn(100)), r.Intn(4)*r.Intn(4)),
	}
}

// alike asks both trees of all that there is.
func alike(t *testing.T, m *Tree, want plain) {
	t.Helper()
	a, b, c := want.count()
	count(t, m, a, b, c)
	for _, p := range append(slices.Collect(maps.Keys(want)), "/") {
		for _, o := range []api.Op{stat(p), list(p), read(p, 0, 40)} {
			if got, want := m.Do(o), want.do(o); !same(got, want) {
				t.Fatalf("%v: %v, want %v", o, got, want)
			}
		}
	}
}

// P17.1, P17.2, P17.3, R6: whatever is asked is answered as by the plain one.
func TestAgainstThePlainOne(t *testing.T) {
	r := rand.New(rand.NewSource(17))
	for range 120 {
		m, want := New(), plain{}
		var olds []*Tree
		var wants []plain
		for step := range 150 {
			o := anyOp(r)
			if got, want := m.Do(o), want.do(o); !same(got, want) {
				t.Fatalf("%v: %v, want %v", o, got, want)
			}
			alike(t, m, want)
			if step%30 == 0 {
				olds, wants = append(olds, m.Copy()), append(wants, want.twin())
			}
		}
		for i, old := range olds {
			alike(t, old, wants[i])
		}
	}
}

// P17.3
func TestWrittenIsRead(t *testing.T) {
	r := rand.New(rand.NewSource(173))
	m := made(t, create("/a"), create("/b"), mkdir("/d"), create("/d/a"), link("/b", "/d/b"))
	files := [][]string{{"/a"}, {"/b", "/d/b"}, {"/d/a"}} // each with all its names
	for range 500 {
		i := r.Intn(len(files))
		off, data := r.Intn(700), strings.Repeat(string(rune('a'+r.Intn(26))), r.Intn(700))
		var was []api.Answer
		for _, names := range files {
			was = append(was, m.Do(read(names[0], 0, api.MaxFile)))
		}
		m.Do(write(files[i][r.Intn(len(files[i]))], off, data))
		for j, names := range files {
			for _, p := range names {
				if j == i {
					check(t, m, read(p, off, len(data)), api.Answer{N: len(data), Data: data})
				} else {
					check(t, m, read(p, 0, api.MaxFile), was[j])
				}
			}
		}
	}
}
