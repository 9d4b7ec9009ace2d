package runs

import (
	"bytes"
	"container/heap"
	"iter"
)

// list is records in ascending order, one behind the other.
type list []byte

// queue is lists with at least one record each, in a heap by their first ones.
type queue struct {
	width int
	lists []list
}

// merged returns an iterator over the records of all lists in ascending order.
// A list is taken out of the heap for as long as the next record is its own.
func merged(lists []list, width int) iter.Seq[[]byte] {
	return func(yield func([]byte) bool) {
		q := newQueue(lists, width)
	merging:
		for q.Len() > 0 {
			l := heap.Pop(q).(list)
			for q.isNext(l) {
				if !yield(bytes.Clone(l[:width])) {
					return
				}
				if l = l[width:]; len(l) == 0 {
					continue merging
				}
			}
			heap.Push(q, l)
		}
	}
}

// newQueue returns a queue of those lists that have records.
func newQueue(lists []list, width int) *queue {
	q := &queue{width: width}
	for _, l := range lists {
		if len(l) > 0 {
			q.lists = append(q.lists, l)
		}
	}
	heap.Init(q)
	return q
}

// isNext reports whether the first record of l is not above any of q.
func (q *queue) isNext(l list) bool {
	return len(q.lists) == 0 || q.compare(l, q.lists[0]) <= 0
}

// compare compares the first records of two lists.
func (q *queue) compare(l, other list) int {
	return bytes.Compare(l[:q.width], other[:q.width])
}

func (q *queue) Len() int {
	return len(q.lists)
}

func (q *queue) Less(i, j int) bool {
	return q.compare(q.lists[i], q.lists[j]) < 0
}

func (q *queue) Swap(i, j int) {
	q.lists[i], q.lists[j] = q.lists[j], q.lists[i]
}

func (q *queue) Push(l any) {
	q.lists = append(q.lists, l.(list))
}

func (q *queue) Pop() any {
	end := len(q.lists) - 1
	l := q.lists[end]
	q.lists = q.lists[:end]
	return l
}
