package rank

import "container/heap"

// queue is numbers, of which the least one is taken first: they are kept by the library's heap, which calls the methods with capitals.
type queue []int

func (q *queue) put(n int) {
	heap.Push(q, n)
}

func (q *queue) take() int {
	return heap.Pop(q).(int)
}

func (q queue) Len() int {
	return len(q)
}

func (q queue) Less(i, j int) bool {
	return q[i] < q[j]
}

func (q queue) Swap(i, j int) {
	q[i], q[j] = q[j], q[i]
}

func (q *queue) Push(x any) {
	*q = append(*q, x.(int))
}

func (q *queue) Pop() any {
	last := len(*q) - 1
	n := (*q)[last]
	*q = (*q)[:last]
	return n
}
