// Package fixed is layer 1, numbers of fixed width, as bytes: see shared/doc/01-fixed.md.
package fixed

import "permafrost/api"

// widest is the greatest width: an int does not have all numbers of eight bytes.
const widest = 7

func Most(width int) int {
	if width < 1 || width > widest {
		return -1
	}
	return 1<<(8*width) - 1
}

func Put(n int, width int) string {
	if n < 0 || n > Most(width) {
		return ""
	}
	b := make([]byte, width)
	for i := range width {
		b[i] = byte(n >> (8 * i))
	}
	return string(b)
}

func Text(s string, width int) string {
	if len(s) > Most(width) {
		return ""
	}
	return Put(len(s), width) + s
}

// Reader takes numbers and texts from the front of bytes. With an error it has
// no rest any more, so that nothing can be taken, or be left, behind one.
type Reader struct {
	rest string
	err  api.Errno
}

func Read(s string) *Reader { return &Reader{rest: s} }

func (r *Reader) Number(width int) int {
	if Most(width) < 0 {
		r.fail(api.ErrArg)
		return 0
	}
	b := r.Bytes(width)
	n := 0
	for i := range len(b) {
		n |= int(b[i]) << (8 * i)
	}
	return n
}

// Text need not ask whether its number was there: behind an error Bytes takes nothing.
func (r *Reader) Text(width int) string { return r.Bytes(r.Number(width)) }

func (r *Reader) Bytes(n int) string {
	if r == nil {
		return ""
	}
	if n < 0 {
		r.fail(api.ErrArg)
		return ""
	}
	if n > len(r.rest) {
		r.fail(api.ErrCut)
		return ""
	}
	b := r.rest[:n]
	r.rest = r.rest[n:]
	return b
}

func (r *Reader) Left() int {
	if r == nil {
		return 0
	}
	return len(r.rest)
}

func (r *Reader) End() api.Errno {
	switch {
	case r == nil:
		return api.ErrArg
	case r.err != api.OK:
		return r.err
	case len(r.rest) > 0:
		return api.ErrForm
	}
	return api.OK
}

// fail leaves an earlier error as it is: the first one stays.
func (r *Reader) fail(e api.Errno) {
	if r == nil || r.err != api.OK {
		return
	}
	r.err = e
	r.rest = ""
}
