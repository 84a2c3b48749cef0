package arc

import "slices"

// list has keys, the oldest one first.
type list struct {
	keys []string
}

// some does a method to one list behind the other, till it answers true.
func some(do func(*list, string) bool, key string, lists ...*list) bool {
	for _, l := range lists {
		if do(l, key) {
			return true
		}
	}
	return false
}

func (l *list) size() int {
	return len(l.keys)
}

func (l *list) has(key string) bool {
	return slices.Contains(l.keys, key)
}

func (l *list) add(key string) {
	l.keys = append(l.keys, key)
}

// take tells whether the key was there to be taken.
func (l *list) take(key string) bool {
	at := slices.Index(l.keys, key)
	if at < 0 {
		return false
	}
	l.keys = slices.Delete(l.keys, at, at+1)
	return true
}

// takeOldest answers the empty text if there is no key.
func (l *list) takeOldest() string {
	if len(l.keys) == 0 {
		return ""
	}
	key := l.keys[0]
	l.take(key)
	return key
}

// moveOldest answers the empty text if there is no key, and adds none then.
func (l *list) moveOldest(to *list) string {
	key := l.takeOldest()
	if key != "" {
		to.add(key)
	}
	return key
}

// step is how far the target goes for a key of l, which has one at least: the
// further, the more the other list outnumbers it.
func (l *list) step(other list) int {
	return max(1, other.size()/l.size())
}
