package fsys

import (
	"strings"

	"permafrost/api"
	"permafrost/inode"
)

// span is bytes of a chunk, from one on, up to another one.
type span struct {
	chunk int
	from  int
	to    int
}

// spans tells a file's bytes from one on, up to another one, chunk by chunk.
func spans(from int, to int) []span {
	var l []span
	for from < to {
		first := from - from%api.Chunk
		end := min(to, first+api.Chunk)
		l = append(l, span{first / api.Chunk, from - first, end - first})
		from = end
	}
	return l
}

// chunks tells the file that a path has to lead to, and the refs of its chunks.
func (f *files) chunks(path string) (thing, []string, api.Errno) {
	x, e := f.file(path)
	if e != api.OK {
		return thing{}, nil, e
	}
	var l []string
	for _, p := range spans(0, x.Size) {
		ref, _ := f.get(inode.Chunk(x.number, p.chunk))
		l = append(l, ref)
	}
	return x, l, api.OK
}

// kept tells what the block of a chunk has, if there is one.
func (f *files) kept(x thing, chunk int) (string, api.Errno) {
	ref, is := f.get(inode.Chunk(x.number, chunk))
	if !is {
		return "", api.OK
	}
	return f.blocks.Get(ref)
}

// bytes tells the bytes of a file that a chunk is of.
func (f *files) bytes(x thing, chunk int) (string, api.Errno) {
	text, e := f.kept(x, chunk)
	if e != api.OK {
		return "", e
	}
	return sized(text, x.within(chunk)), api.OK
}

// within tells how many of a file's bytes a chunk is of.
func (x thing) within(chunk int) int {
	return min(max(x.Size-chunk*api.Chunk, 0), api.Chunk)
}

// keep has a chunk's block be one that has text.
func (f *files) keep(x thing, chunk int, text string) {
	f.put(inode.Chunk(x.number, chunk), must(f.blocks.PutData(text)))
}

// overwrite has data stand where p tells. It is of no moment that the chunk's
// bytes can't be read, where all are written over; and where they stay what they
// were, the tree stays, too.
func (f *files) overwrite(x thing, p span, data string) {
	was, e := f.bytes(x, p.chunk)
	if p.from > 0 || p.to < x.within(p.chunk) {
		must(was, e)
	}
	text := sized(was, p.from) + data + was[min(p.to, len(was)):]
	if text != was {
		f.keep(x, p.chunk, text)
	}
}

// cut takes away what blocks have of a file's bytes from size on, so that none
// of it comes back when the file grows.
func (f *files) cut(x thing, size int) {
	for _, p := range spans(size, x.Size) {
		if p.from == 0 {
			f.drop(inode.Chunk(x.number, p.chunk))
			continue
		}
		if text := must(f.kept(x, p.chunk)); len(text) > p.from {
			f.keep(x, p.chunk, text[:p.from])
		}
	}
}

// sized tells the first n bytes of text, or text with bytes 0 behind it.
func sized(text string, n int) string {
	if n <= len(text) {
		return text[:n]
	}
	return text + strings.Repeat("\x00", n-len(text))
}
