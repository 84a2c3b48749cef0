package shell

import (
	"strconv"
	"strings"

	"permafrost/api"
	"permafrost/script"
	"permafrost/sum"
)

const (
	none       = "-" // bytes of which there are none
	digits     = "0123456789abcdef"
	mostDigits = 9
)

// words are a line's that were not taken yet.
type words struct {
	rest []string
	bad  bool // whether one was missing, or was not what was asked for
}

// wordsOf tells a line's words. Beside a blank, two of which have an empty word
// between them, no word has a byte 10.
func wordsOf(line string) *words {
	l := strings.Split(line, " ")
	w := &words{rest: l, bad: strings.Contains(line, "\n")}
	for _, word := range l {
		w.bad = w.bad || word == ""
	}
	return w
}

// word takes the next word.
func (w *words) word() string {
	if len(w.rest) == 0 {
		w.bad = true
		return ""
	}
	next := w.rest[0]
	w.rest = w.rest[1:]
	return next
}

// number takes a number.
func (w *words) number() int {
	s := w.word()
	n, err := strconv.Atoi(s)
	// Atoi takes signs, and more digits than it takes.
	if err != nil || n < 0 || len(s) > mostDigits || s != strconv.Itoa(n) {
		w.bad = true
		return 0
	}
	return n
}

// bytes takes bytes.
func (w *words) bytes() string {
	s := w.word()
	if s == none {
		return ""
	}
	if len(s)%2 > 0 {
		w.bad = true
		return ""
	}
	var b strings.Builder
	for i := 0; i < len(s); i += 2 {
		high, low := strings.IndexByte(digits, s[i]), strings.IndexByte(digits, s[i+1])
		if high < 0 || low < 0 {
			w.bad = true
			return ""
		}
		b.WriteByte(byte(high*len(digits) + low))
	}
	return b.String()
}

// item takes the words of a line.
func (w *words) item() script.Item {
	take, is := lines()[w.word()]
	if !is {
		w.bad = true
		return script.Item{}
	}
	return take(w)
}

// look takes the words of a line that asks what may be asked of a snapshot. No
// other line is taken from here, so that none stands within itself, however long.
func (w *words) look() api.Op {
	verb := w.word()
	switch verb {
	case "read", "stat", "list":
		return lines()[verb](w).O
	}
	w.bad = true
	return api.Op{}
}

// packed tells text as bytes.
func packed(text string) string {
	if text == "" {
		return none
	}
	return sum.Hex(text)
}
