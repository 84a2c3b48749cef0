package fsys

import "permafrost/api"

// perPair is how many blocks of Meta a pair that changes takes at most.
const perPair = 50

// How many pairs an op changes at most.
const (
	entryPairs = 6
	filePairs  = 2
	chunkPairs = 65 // of all chunks of a file
)

// Need tells how many blocks of Meta, and of Data, o takes at most.
func Need(o api.Op) (int, int) {
	pairs, datas := 0, 0
	switch o.Do {
	case api.Create, api.Mkdir, api.Link, api.Rmdir, api.Rename:
		pairs = entryPairs
	case api.Unlink:
		pairs = entryPairs + chunkPairs
	case api.Write:
		datas = reach(o)
		pairs = filePairs + datas
	case api.Truncate:
		datas = 1 // the chunk that is cut in two
		pairs = filePairs + chunkPairs
	}
	return perPair * pairs, datas
}

// reach tells how many chunks a Write reaches.
func reach(o api.Op) int {
	if mayWrite(o) != api.OK {
		return 0
	}
	return len(spans(o.Off, o.Off+len(o.Data)))
}
