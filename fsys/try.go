package fsys

import "permafrost/api"

// must tells what was got. A block's error goes up from here to the face by a
// panic, as no op can go on behind one.
func must[T any](got T, e api.Errno) T {
	if e != api.OK {
		panic(e)
	}
	return got
}

// try does what a block's error may end, and tells that, or what do tells.
func try(do func() api.Errno) (e api.Errno) {
	defer func() {
		if up := recover(); up != nil {
			e = up.(api.Errno)
		}
	}()
	return do()
}
