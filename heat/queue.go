package heat

// item is a key, and what its count is worth.
type item struct {
	key   string
	worth int
}

// queue is a heap whose first item is the hottest one.
type queue []item

func (q queue) Len() int { return len(q) }

// Less puts no two keys on a par, so that the order of the map is not to be
// seen.
func (q queue) Less(i, j int) bool {
	if q[i].worth != q[j].worth {
		return q[i].worth > q[j].worth
	}
	return q[i].key < q[j].key
}

func (q queue) Swap(i, j int) { q[i], q[j] = q[j], q[i] }

func (q *queue) Push(x any) {
	if one, ok := x.(item); ok {
		*q = append(*q, one)
	}
}

func (q *queue) Pop() any {
	last := len(*q) - 1
	one := (*q)[last]
	*q = (*q)[:last]
	return one
}
