package history

import (
	"container/heap"

	"chorus/operation"
)

// line has one peer's operations that are still to be told, by their numbers; there is one at least.
type line []operation.Operation

// lines is a heap: the first of its lines is the one whose next operation goes ahead of all others'.
type lines []line

// takeFirst takes the next operation of the first line away, and the line with its last one.
func (l *lines) takeFirst() {
	if len((*l)[0]) == 1 {
		heap.Pop(l)
		return
	}
	(*l)[0] = (*l)[0][1:]
	heap.Fix(l, 0)
}

func (l lines) Len() int { return len(l) }

func (l lines) Less(i, j int) bool {
	one, other := l[i][0], l[j][0]
	if one.Clock != other.Clock {
		return one.Clock < other.Clock
	}
	return one.Peer < other.Peer
}

func (l lines) Swap(i, j int) { l[i], l[j] = l[j], l[i] }

// Push is for package heap alone.
func (l *lines) Push(x any) {
	*l = append(*l, x.(line))
}

// Pop is for package heap alone.
func (l *lines) Pop() any {
	last := len(*l) - 1
	x := (*l)[last]
	*l = (*l)[:last]
	return x
}
