package shell

import (
	"fmt"
	"math"
	"math/rand"
	"strconv"
	"strings"
	"testing"

	"permafrost/api"
	"permafrost/fixed"
	"permafrost/inode"
	"permafrost/node"
	"permafrost/ptr"
	"permafrost/script"
	"permafrost/sum"
	"permafrost/uber"
)

func onOp(o api.Op) script.Item { return script.Item{O: o} }

// all is all that an item has, as one text.
func all(x script.Item) string { return fmt.Sprintf("%#v", x) }

// known is each line of the document's table, and the item that it is.
func known() map[string]script.Item {
	return map[string]script.Item{
		"create /a":         onOp(api.Op{Do: 0, Path: "/a"}),
		"mkdir /a":          onOp(api.Op{Do: 1, Path: "/a"}),
		"link /a /b":        onOp(api.Op{Do: 2, Path: "/a", To: "/b"}),
		"unlink /a":         onOp(api.Op{Do: 3, Path: "/a"}),
		"rmdir /a":          onOp(api.Op{Do: 4, Path: "/a"}),
		"rename /a /b":      onOp(api.Op{Do: 5, Path: "/a", To: "/b"}),
		"read /a 1 2":       onOp(api.Op{Do: 6, Path: "/a", Off: 1, Len: 2}),
		"write /a 1 0aff":   onOp(api.Op{Do: 7, Path: "/a", Off: 1, Data: "\n\xff"}),
		"write /a 0 -":      onOp(api.Op{Do: 7, Path: "/a"}),
		"truncate /a 3":     onOp(api.Op{Do: 8, Path: "/a", Len: 3}),
		"stat /a":           onOp(api.Op{Do: 9, Path: "/a"}),
		"list /":            onOp(api.Op{Do: 10, Path: "/"}),
		"sync":              {Do: 1},
		"snap s":            {Do: 2, Name: "s"},
		"rollback s":        {Do: 3, Name: "s"},
		"destroy s":         {Do: 4, Name: "s"},
		"see s read /a 1 2": {Do: 5, Name: "s", O: api.Op{Do: 6, Path: "/a", Off: 1, Len: 2}},
		"see s stat /a":     {Do: 5, Name: "s", O: api.Op{Do: 9, Path: "/a"}},
		"see s list /":      {Do: 5, Name: "s", O: api.Op{Do: 10, Path: "/"}},
		"crash":             {Do: 6},
		"step 1 2":          {Do: 7, Now: 1, N: 2},
		"scrub":             {Do: 8},
		"spoil 1 20 6a":     {Do: 9, Loc: api.Loc{Dev: 1, At: 20}, Data: "j"},
		"spoil 0 0 -":       {Do: 9},
		"lose 1":            {Do: 10, N: 1},
		"free":              {Do: 11},
		"snaps":             {Do: 12},
		"paths":             {Do: 13},
		// What is no path, or name, by other chapters, is a word here.
		"create a":                        onOp(api.Op{Path: "a"}),
		"create -":                        onOp(api.Op{Path: "-"}),
		"create \x00\t\r\xff":             onOp(api.Op{Path: "\x00\t\r\xff"}),
		"link create 5":                   onOp(api.Op{Do: 2, Path: "create", To: "5"}),
		"snap snap":                       {Do: 2, Name: "snap"},
		"see see stat see":                {Do: 5, Name: "see", O: api.Op{Do: 9, Path: "see"}},
		"see read read read 0 0":          {Do: 5, Name: "read", O: api.Op{Do: 6, Path: "read"}},
		"read /a 999999999 0":             onOp(api.Op{Do: 6, Path: "/a", Off: 999999999}),
		"step 999999999 10":               {Do: 7, Now: 999999999, N: 10},
		"lose 0":                          {Do: 10},
		"spoil 999999999 999999999 00":    {Do: 9, Loc: api.Loc{Dev: 999999999, At: 999999999}, Data: "\x00"},
		"write /a 0 0123456789abcdef00ff": onOp(api.Op{Do: 7, Path: "/a", Data: "\x01\x23\x45\x67\x89\xab\xcd\xef\x00\xff"}),
	}
}

func TestKnownLines(t *testing.T) { // P24.1
	for s, want := range known() {
		if x, e := Parse(s); all(x) != all(want) || e != api.OK {
			t.Errorf("%q: %v, %d", s, x, e)
		}
		if y := Print(want); y != s {
			t.Errorf("%v: %q, want %q", want, y, s)
		}
	}
}

func refused(t *testing.T, s string) {
	t.Helper()
	if x, e := Parse(s); all(x) != all(script.Item{}) || e != api.ErrLine {
		t.Errorf("%.100q: %.300v, %d", s, x, e)
	}
}

func TestParseRefuses(t *testing.T) { // P24.1
	for s := range known() {
		for _, x := range []string{s + " ", " " + s, s + " x", s + " 0", s + "\n", "\n" + s, s + " \n", s + " -", "x " + s, strings.Replace(s, " ", "  ", 1), strings.Replace(s, " ", "\t", 1), strings.ToUpper(s), s[1:], s + "\r\n"} {
			if _, is := known()[x]; !is && x != "create \t\x00\t\r\xff" {
				refused(t, x)
			}
		}
		if at := strings.LastIndex(s, " "); at > 0 { // a word is missing
			refused(t, s[:at])
			refused(t, s[:at+1])
		}
	}
	for _, s := range []string{"", " ", "  ", "\n", "-", "0", "nonsense", "create /a\n/b", "see s create /a", "see s write /a 0 -", "see s sync", "see s see s list /", "see see", "see", "see s", "see s list", "see list /", "see s unlink /a", "see s truncate /a 0"} {
		refused(t, s)
	}
	for _, n := range []string{"", "-", "-0", "-1", "+1", "00", "01", "1.0", "1_0", "0x1", "a", "1a", "1000000000", "0000000001", "99999999999999999999", "١", "1 ", "1\n"} {
		for _, line := range []string{"read /a # 1", "read /a 1 #", "write /a # -", "truncate /a #", "step # 1", "step 1 #", "spoil # 1 -", "spoil 1 # -", "lose #", "see s read /a # 1", "see s read /a 1 #"} {
			refused(t, strings.Replace(line, "#", n, 1))
		}
	}
	for _, b := range []string{"", "0", "000", "0g", "g0", "FF", "fF", "--", "-0", "0-", "-00", "0x00", "00\n", "é", "/0", ":0", "`0", "0G"} {
		for _, line := range []string{"write /a 0 ", "spoil 0 1 "} {
			refused(t, line+b)
		}
	}
}

// P24.1: nothing is printed of what is no line's item.
func TestPrintRefuses(t *testing.T) {
	for s, x := range known() {
		l := map[string]script.Item{}
		add := func(what string, change func(x *script.Item)) {
			y := x
			change(&y)
			l[what] = y
		}
		add("keep", func(x *script.Item) { x.Keep = []bool{false} })
		if x.Do != 0 && x.Do != 5 {
			add("path", func(x *script.Item) { x.O.Path = "/a" })
			add("do", func(x *script.Item) { x.O.Do = 6 })
		}
		if x.Do != 0 || x.O.Do != 2 && x.O.Do != 5 {
			add("to", func(x *script.Item) { x.O.To = "/b" })
		}
		if x.O.Do != 6 && x.O.Do != 7 {
			add("off", func(x *script.Item) { x.O.Off = 1 })
		}
		if x.O.Do != 6 && x.O.Do != 8 {
			add("len", func(x *script.Item) { x.O.Len = 1 })
		}
		if x.O.Do != 7 {
			add("bytes", func(x *script.Item) { x.O.Data = "x" })
		}
		if x.Do < 2 || x.Do > 5 {
			add("name", func(x *script.Item) { x.Name = "s" })
		}
		if x.Do != 7 {
			add("now", func(x *script.Item) { x.Now = 1 })
		}
		if x.Do != 7 && x.Do != 10 {
			add("n", func(x *script.Item) { x.N = -1 })
		}
		if x.Do != 9 {
			add("dev", func(x *script.Item) { x.Loc.Dev = 1 })
			add("at", func(x *script.Item) { x.Loc.At = 1 })
			add("data", func(x *script.Item) { x.Data = "x" })
		}
		for what, y := range l {
			if line := Print(y); line != "" {
				t.Errorf("%q with %s: %q", s, what, line)
			}
		}
	}
	o := func(do int) script.Item { return onOp(api.Op{Do: do, Path: "/a"}) }
	var l []script.Item
	for _, word := range []string{"", " ", "a b", " a", "a ", "\n", "a\n", "a\nb"} {
		for do := range 11 {
			x := o(do)
			x.O.Path, x.O.To = word, "/b"
			if do != 2 && do != 5 {
				x.O.To = ""
			}
			l = append(l, x)
		}
		l = append(l, onOp(api.Op{Do: 2, Path: "/a", To: word}), onOp(api.Op{Do: 5, Path: "/a", To: word}), script.Item{Do: 2, Name: word}, script.Item{Do: 3, Name: word}, script.Item{Do: 4, Name: word}, script.Item{Do: 5, Name: word, O: api.Op{Do: 9, Path: "/a"}}, script.Item{Do: 5, Name: "s", O: api.Op{Do: 9, Path: word}})
	}
	for _, n := range []int{-1, 1000000000, math.MinInt, math.MaxInt} {
		l = append(l, onOp(api.Op{Do: 6, Path: "/a", Off: n}), onOp(api.Op{Do: 6, Path: "/a", Len: n}), onOp(api.Op{Do: 7, Path: "/a", Off: n}), onOp(api.Op{Do: 8, Path: "/a", Len: n}), script.Item{Do: 7, Now: n}, script.Item{Do: 7, N: n}, script.Item{Do: 9, Loc: api.Loc{Dev: n}}, script.Item{Do: 9, Loc: api.Loc{At: n}}, script.Item{Do: 10, N: n}, script.Item{Do: n}, o(n), script.Item{Do: 5, Name: "s", O: o(n).O})
	}
	for do := range 12 {
		if do != 6 && do != 9 && do != 10 {
			l = append(l, script.Item{Do: 5, Name: "s", O: o(do).O})
		}
	}
	for _, x := range append(l, o(11), o(-1), script.Item{Do: 14}, script.Item{}, script.Item{Do: 5}, script.Item{Do: 2}) {
		if line := Print(x); line != "" {
			t.Errorf("%v: %q", x, line)
		}
	}
	if line := Print(script.Item{Do: 1, Keep: []bool{}}); line != "sync" {
		t.Errorf("%q", line)
	}
}

func anyWord(r *rand.Rand) string {
	words := []string{"create", "mkdir", "link", "unlink", "rmdir", "rename", "read", "write", "truncate", "stat", "list", "sync", "snap", "rollback", "destroy", "see", "crash", "step", "scrub", "spoil", "lose", "free", "snaps", "paths", "/a", "/b", "/a/b", "/", "s", "-", "6a", "0", "1", "9", "20", "999999999", "", "\n", "é"}
	if r.Intn(9) == 0 {
		b := make([]byte, r.Intn(4))
		r.Read(b)
		return string(b)
	}
	return words[r.Intn(len(words))]
}

// anyLine is a line, or nearly one.
func anyLine(r *rand.Rand) string {
	path := func() string { return []string{"/a", "/b", "/c", "/a/b", "/c/d", "/", "x"}[r.Intn(7)] }
	number := func() string { return strconv.Itoa([]int{0, 1, 2, 255, 256, 300, 999999999}[r.Intn(7)]) }
	bytes := func() string {
		return []string{"-", "6a", strings.Repeat("00ff", r.Intn(300)+1)}[r.Intn(3)]
	}
	name := func() string { return []string{"s", "t", "-"}[r.Intn(3)] }
	l := []string{}
	switch r.Intn(16) {
	case 0, 1, 2:
		l = []string{[]string{"create", "mkdir", "unlink", "rmdir", "stat", "list"}[r.Intn(6)], path()}
	case 3:
		l = []string{[]string{"link", "rename"}[r.Intn(2)], path(), path()}
	case 4:
		l = []string{"read", path(), number(), number()}
	case 5, 6:
		l = []string{"write", path(), number(), bytes()}
	case 7:
		l = []string{"truncate", path(), number()}
	case 8, 9:
		l = []string{[]string{"sync", "crash", "scrub", "free", "snaps", "paths"}[r.Intn(6)]}
	case 10:
		l = []string{[]string{"snap", "rollback", "destroy"}[r.Intn(3)], name()}
	case 11:
		l = []string{"see", name(), "read", path(), number(), number()}
	case 12:
		l = []string{"see", name(), []string{"stat", "list"}[r.Intn(2)], path()}
	case 13:
		l = []string{"step", number(), number()}
	case 14:
		l = []string{"spoil", number(), number(), bytes()}
		if r.Intn(30) == 0 {
			l = []string{"lose", strconv.Itoa(r.Intn(3))}
		}
	case 15:
		for range r.Intn(5) {
			l = append(l, anyWord(r))
		}
	}
	if r.Intn(15) == 0 && len(l) > 0 {
		l[r.Intn(len(l))] = anyWord(r)
	}
	return strings.Join(l, " ")
}

// P24.4: an item that is printed is parsed, and a line that is parsed is printed.
func TestThereAndBack(t *testing.T) {
	r := rand.New(rand.NewSource(244))
	lines, items := 0, 0
	for range 30000 {
		s := anyLine(r)
		x, e := Parse(s)
		if e == api.OK {
			lines++
			if y := Print(x); y != s {
				t.Fatalf("%q: %q", s, y)
			}
		} else if e != api.ErrLine || all(x) != all(script.Item{}) {
			t.Fatalf("%q: %v, %d", s, x, e)
		}
		x = anyItem(r)
		s = Print(x)
		if y, e := Parse(s); s != "" && (all(y) != all(x) || e != api.OK) {
			t.Fatalf("%v: %q, %v, %d", x, s, y, e)
		}
		if s != "" {
			items++
		}
	}
	if lines < 5000 || items < 2000 {
		t.Errorf("%d lines, %d items", lines, items)
	}
}

// anyItem has few fields that are not zero: else nearly none would have a line.
func anyItem(r *rand.Rand) script.Item {
	number := func() int { return []int{0, 0, 0, 1, 20, 999999999, 1000000000, -1}[r.Intn(8)] }
	word := func() string { return []string{"", "", "/a", "b", "-", "a b", "\n", "\x00"}[r.Intn(8)] }
	x := script.Item{Do: r.Intn(16) - 1}
	if x.Do == 0 || x.Do == 5 || r.Intn(9) == 0 {
		x.O.Do, x.O.Path = r.Intn(13)-1, word()
	}
	for range r.Intn(3) {
		switch r.Intn(9) {
		case 0:
			x.O.To = word()
		case 1:
			x.O.Off = number()
		case 2:
			x.O.Len = number()
		case 3:
			x.O.Data = word()
		case 4:
			x.Name = word()
		case 5:
			x.Now = number()
		case 6:
			x.N = number()
		case 7:
			x.Loc = api.Loc{Dev: number(), At: number()}
		case 8:
			x.Data = word()
		}
	}
	return x
}

func TestText(t *testing.T) { // P24.2
	for _, c := range []struct {
		a    api.Answer
		want string
	}{
		{api.Answer{}, "ok 0 -"},
		{api.Answer{N: 12}, "ok 12 -"},
		{api.Answer{N: -3}, "ok -3 -"},
		{api.Answer{N: math.MaxInt}, "ok 9223372036854775807 -"},
		{api.Answer{N: math.MinInt}, "ok -9223372036854775808 -"},
		{api.Answer{Data: "\x00\n\xff-"}, "ok 0 000aff2d"},
		{api.Answer{Names: []string{}}, "ok 0 -"},
		{api.Answer{Names: []string{""}}, "ok 0 - -"},
		{api.Answer{N: 1, Data: "a", Names: []string{"b", "", "c d", "-"}}, "ok 1 61 62 - 632064 2d"},
		{api.Answer{Code: 1}, "error 1"},
		{api.Answer{Code: 15, N: 3, Data: "x", Names: []string{"y"}}, "error 15"},
		{api.Answer{Code: -1}, "error -1"},
		{api.Answer{Code: math.MinInt}, "error -9223372036854775808"},
	} {
		if s := Text(c.a); s != c.want {
			t.Errorf("%v: %q, want %q", c.a, s, c.want)
		}
	}
}

func made(t *testing.T, slow int, fast int, p api.Policy) *Session {
	t.Helper()
	s := New(slow, fast, p)
	if s == nil {
		t.Fatal("New")
	}
	return s
}

// says has lines answered, each as what stands behind it.
func says(t *testing.T, s *Session, lines ...string) {
	t.Helper()
	for i := 0; i < len(lines); i += 2 {
		if a := s.Do(lines[i]); a != lines[i+1] {
			t.Errorf("%q: %q, want %q", lines[i], a, lines[i+1])
		}
	}
}

func TestExample(t *testing.T) { // P24.3
	says(t, made(t, 50, 50, api.Policy{}), "create /a", "ok 0 -", "stat /a", "ok 0 66696c65 31")
}

// The document's examples of the whole that a session can tell.
func TestExamplesOfTheWhole(t *testing.T) {
	s := made(t, 100, 100, api.Policy{MetaFast: true, Mirror: true})
	says(t, s, "create /a", "ok 0 -", "link /a /b", "ok 0 -", "write /a 0 6869", "ok 2 -", "read /b 0 9", "ok 2 6869")
	says(t, s, "snap s", "ok 0 -", "unlink /a", "ok 0 -", "stat /a", "error 8", "rollback s", "ok 0 -", "read /a 0 9", "ok 2 6869")
	says(t, s, "step 0 9", "ok 1 - 30", "step 0 0", "ok 0 - 31") // its chunk, to Fast and back
	says(t, s, "create /c", "ok 0 -", "sync", "ok 0 -", "create /d", "ok 0 -", "crash", "ok 0 -", "paths", "ok 0 - 2f 2f61 2f62 2f63")
	says(t, s, "lose 1", "ok 0 -", "paths", "ok 0 - 2f 2f61 2f62 2f63", "free", "ok 92 - 30") // a node and a chunk, of each of two trees
}

func TestNew(t *testing.T) { // P24.3
	for _, c := range []struct {
		slow, fast int
		p          api.Policy
	}{{0, 9, api.Policy{}}, {9, 0, api.Policy{}}, {9, 513, api.Policy{}}, {-1, -1, api.Policy{}}, {1, 1, api.Policy{}}, {9, 9, api.Policy{Arc: 65}}, {9, 9, api.Policy{Small: 257}}, {9, 9, api.Policy{Second: -1}}} {
		if New(c.slow, c.fast, c.p) != nil {
			t.Errorf("%v", c)
		}
	}
}

// P24.3: of no session, and of one that New did not make, which has no desk.
func TestNothing(t *testing.T) {
	var none *Session
	for _, line := range []string{"", "sync", "free", "create /a", "nonsense"} {
		if a := none.Do(line); a != "" {
			t.Errorf("%q: %q", line, a)
		}
	}
	says(t, &Session{}, "", "error 15", "sync", "error 1", "free", "error 1", "create /a", "error 1")
}

// P24.3: what a line tells happens, and is answered as the desk answers it.
func TestAgainstTheDesk(t *testing.T) {
	r := rand.New(rand.NewSource(243))
	ok := 0
	for range 30 {
		p := api.Policy{MetaFast: r.Intn(2) == 0, Mirror: r.Intn(2) == 0, Small: r.Intn(2) * 100, Arc: r.Intn(5), Second: r.Intn(20)}
		slow, fast := 10+r.Intn(100), 10+r.Intn(100)
		s := made(t, slow, fast, p)
		desk, _ := script.New(slow, fast, p)
		for range 150 {
			line := anyLine(r)
			want := "error 15"
			if x, e := Parse(line); e == api.OK {
				want = Text(desk.Do(x))
			}
			a := s.Do(line)
			if a != want {
				t.Fatalf("%.100q: %.100q, want %.100q", line, a, want)
			}
			if strings.HasPrefix(a, "ok ") {
				ok++
			}
		}
	}
	if ok < 1000 {
		t.Errorf("only %d were ok", ok)
	}
}

// P2: any line is answered, by one line.
func TestAnyLine(t *testing.T) {
	r := rand.New(rand.NewSource(2))
	s := made(t, 60, 60, api.Policy{MetaFast: true, Mirror: true, Small: 9, Arc: 5, Second: 12})
	for range 10000 {
		line := anyLine(r)
		if r.Intn(3) == 0 {
			b := make([]byte, r.Intn(30))
			r.Read(b)
			line = string(b)
		}
		a := s.Do(line)
		if !strings.HasPrefix(a, "ok ") && !strings.HasPrefix(a, "error ") || strings.Contains(a, "\n") {
			t.Fatalf("%q: %q", line, a)
		}
		if strings.HasPrefix(line, "lose") || a == "error 1" && r.Intn(20) == 0 {
			s = made(t, 60, 60, api.Policy{MetaFast: r.Intn(2) == 0, Arc: r.Intn(9), Second: r.Intn(20)})
		}
	}
}

// P2: however long a line is, and however often one seems to stand in it.
func TestLongLines(t *testing.T) {
	s := made(t, 60, 60, api.Policy{})
	const many = 1 << 20
	says(t, s, "create /a", "ok 0 -",
		strings.Repeat("see s ", many)+"list /", "error 15",
		strings.Repeat("see ", many)+"list /", "error 15",
		strings.Repeat(" ", many), "error 15",
		"create /"+strings.Repeat("a", many), "error 12",
		"create "+strings.Repeat("/a", many), "error 11",
		"read /a 0 "+strings.Repeat("9", many), "error 15",
		"write /a 0 "+strings.Repeat("00", many), "error 13",
		"write /a 0 "+strings.Repeat("0", 2*many+1), "error 15",
		"snap "+strings.Repeat("s", many), "error 12",
		"spoil 0 9 "+strings.Repeat("00", many), "error 1",
		"write /a 0 "+strings.Repeat("61", api.MaxFile), "error 6",
	)
}

// P2: lines may spoil roots as they like, so that there are trees that no call
// made: any line is answered still.
func TestForgedRoots(t *testing.T) {
	dir := func(size int) string { return packedInode(t, inode.Inode{Dir: true, Size: size, Links: 1}) }
	file := packedInode(t, inode.Inode{Size: 9999, Links: 1})
	for i, pairs := range []map[string]string{
		{},
		{"junk": "junk"},
		{inode.Key(0): "junk"},
		{inode.Key(0): file},
		{inode.Key(0): dir(1), inode.Entry(0, "a"): "0"},
		{inode.Key(0): dir(2), inode.Entry(0, "a"): "1", inode.Entry(0, "b"): "x"},
		{inode.Key(0): dir(1), inode.Entry(0, "a"): "1", inode.Key(1): file, inode.Chunk(1, 0): "junk", inode.Chunk(1, 3): ""},
		{inode.Key(0): dir(1), inode.Entry(0, "a"): "1", inode.Key(1): dir(1), inode.Entry(1, "b"): "0"},
	} {
		for _, root := range []string{leaf(t, pairs), "I\x00", "I\x01\x01\x00a\x01b", "L\x01", "junk", ""} {
			s := made(t, 60, 60, api.Policy{Arc: i % 3})
			at := api.Loc{At: 20}
			ref, e := ptr.Encode(api.Ptr{Locs: []api.Loc{at}, Len: len(root), Birth: 1, Sum: sum.Of(root)})
			if e != api.OK {
				t.Fatal(e)
			}
			text, _ := uber.Encode(uber.Uber{Txg: 10, Load: fixed.Text(ref, 1) + fixed.Put(1, 1) + fixed.Text("s", 1) + fixed.Text(ref, 1)})
			says(t, s, Print(script.Item{Do: 9, Loc: at, Data: root}), "ok 0 -", Print(script.Item{Do: 9, Loc: api.Loc{At: 2}, Data: text}), "ok 0 -", "crash", "ok 0 -", "snaps", "ok 0 - 73")
			for line := range known() {
				if a := s.Do(line); !strings.HasPrefix(a, "ok ") && !strings.HasPrefix(a, "error ") {
					t.Errorf("%d: %q: %q", i, line, a)
				}
			}
		}
	}
}

func packedInode(t *testing.T, i inode.Inode) string {
	t.Helper()
	s, e := inode.Encode(i)
	if e != api.OK {
		t.Fatal(e)
	}
	return s
}

func leaf(t *testing.T, pairs map[string]string) string {
	t.Helper()
	n := node.Node{Leaf: true}
	for key, val := range pairs {
		n = node.With(n, key, val)
	}
	s, e := node.Encode(n)
	if e != api.OK {
		t.Fatal(e)
	}
	return s
}

// R6: the same lines are answered by the same, whatever went on beside them.
func TestSameAgain(t *testing.T) {
	r := rand.New(rand.NewSource(26))
	var lines []string
	for range 300 {
		lines = append(lines, anyLine(r))
	}
	var first []string
	for i := range 3 {
		s, other := made(t, 60, 60, api.Policy{Arc: 3, Second: 9}), made(t, 60, 60, api.Policy{})
		for k, line := range lines {
			a := s.Do(line)
			other.Do(anyLine(r))
			if i == 0 {
				first = append(first, a)
			} else if a != first[k] {
				t.Fatalf("%q: %q, was %q", line, a, first[k])
			}
		}
	}
}
