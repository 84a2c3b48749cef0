package shell

import (
	"strconv"

	"permafrost/api"
	"permafrost/script"
)

// What happens, by an item's Do.
const (
	ask = iota
	sync
	snap
	rollback
	destroy
	see
	crash
	step
	scrub
	spoil
	lose
	free
	snaps
	paths
)

// lines tells, by a line's first word, how the item is made of the words behind it.
func lines() map[string]func(*words) script.Item {
	return map[string]func(*words) script.Item{
		"create":   onPath(api.Create),
		"mkdir":    onPath(api.Mkdir),
		"unlink":   onPath(api.Unlink),
		"rmdir":    onPath(api.Rmdir),
		"stat":     onPath(api.Stat),
		"list":     onPath(api.List),
		"link":     onPaths(api.Link),
		"rename":   onPaths(api.Rename),
		"sync":     alone(sync),
		"crash":    alone(crash),
		"scrub":    alone(scrub),
		"free":     alone(free),
		"snaps":    alone(snaps),
		"paths":    alone(paths),
		"snap":     onName(snap),
		"rollback": onName(rollback),
		"destroy":  onName(destroy),
		"read": func(w *words) script.Item {
			return asked(api.Op{Do: api.Read, Path: w.word(), Off: w.number(), Len: w.number()})
		},
		"write": func(w *words) script.Item {
			return asked(api.Op{Do: api.Write, Path: w.word(), Off: w.number(), Data: w.bytes()})
		},
		"truncate": func(w *words) script.Item {
			return asked(api.Op{Do: api.Truncate, Path: w.word(), Len: w.number()})
		},
		"see": func(w *words) script.Item {
			return script.Item{Do: see, Name: w.word(), O: w.look()}
		},
		"step": func(w *words) script.Item {
			return script.Item{Do: step, Now: w.number(), N: w.number()}
		},
		"spoil": func(w *words) script.Item {
			return script.Item{Do: spoil, Loc: api.Loc{Dev: w.number(), At: w.number()}, Data: w.bytes()}
		},
		"lose": func(w *words) script.Item {
			return script.Item{Do: lose, N: w.number()}
		},
	}
}

func asked(o api.Op) script.Item { return script.Item{Do: ask, O: o} }

func onPath(do int) func(*words) script.Item {
	return func(w *words) script.Item { return asked(api.Op{Do: do, Path: w.word()}) }
}

func onPaths(do int) func(*words) script.Item {
	return func(w *words) script.Item { return asked(api.Op{Do: do, Path: w.word(), To: w.word()}) }
}

func onName(do int) func(*words) script.Item {
	return func(w *words) script.Item { return script.Item{Do: do, Name: w.word()} }
}

func alone(do int) func(*words) script.Item {
	return func(*words) script.Item { return script.Item{Do: do} }
}

// said tells the words of x's line; those of no line, if x has none.
func said(x script.Item) []string {
	switch x.Do {
	case ask:
		return saidOp(x.O)
	case sync:
		return []string{"sync"}
	case snap:
		return []string{"snap", x.Name}
	case rollback:
		return []string{"rollback", x.Name}
	case destroy:
		return []string{"destroy", x.Name}
	case see:
		return append([]string{"see", x.Name}, saidOp(x.O)...)
	case crash:
		return []string{"crash"}
	case step:
		return []string{"step", strconv.Itoa(x.Now), strconv.Itoa(x.N)}
	case scrub:
		return []string{"scrub"}
	case spoil:
		return []string{"spoil", strconv.Itoa(x.Loc.Dev), strconv.Itoa(x.Loc.At), packed(x.Data)}
	case lose:
		return []string{"lose", strconv.Itoa(x.N)}
	case free:
		return []string{"free"}
	case snaps:
		return []string{"snaps"}
	case paths:
		return []string{"paths"}
	}
	return nil
}

// saidOp tells the words of the line that asks o.
func saidOp(o api.Op) []string {
	switch o.Do {
	case api.Create:
		return []string{"create", o.Path}
	case api.Mkdir:
		return []string{"mkdir", o.Path}
	case api.Link:
		return []string{"link", o.Path, o.To}
	case api.Unlink:
		return []string{"unlink", o.Path}
	case api.Rmdir:
		return []string{"rmdir", o.Path}
	case api.Rename:
		return []string{"rename", o.Path, o.To}
	case api.Read:
		return []string{"read", o.Path, strconv.Itoa(o.Off), strconv.Itoa(o.Len)}
	case api.Write:
		return []string{"write", o.Path, strconv.Itoa(o.Off), packed(o.Data)}
	case api.Truncate:
		return []string{"truncate", o.Path, strconv.Itoa(o.Len)}
	case api.Stat:
		return []string{"stat", o.Path}
	case api.List:
		return []string{"list", o.Path}
	}
	return nil
}
