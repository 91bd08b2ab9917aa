package wait

import (
	"iter"
	"slices"

	"damper/api"
)

// queue are things in the order in which they came, each once, and no more than
// room of them.
type queue[T comparable] struct {
	room int
	all  []place[T]
}

// place is a thing's in a queue, and until when it waits there.
type place[T comparable] struct {
	of    T
	until int
}

// each yields all that wait, and until when, the first one first.
func (q *queue[T]) each() iter.Seq2[T, int] {
	return func(yield func(T, int) bool) {
		for _, p := range q.all {
			if !yield(p.of, p.until) {
				return
			}
		}
	}
}

func (q *queue[T]) count() int { return len(q.all) }

func (q *queue[T]) has(t T) bool {
	for of := range q.each() {
		if of == t {
			return true
		}
	}
	return false
}

func (q *queue[T]) add(t T, until int) api.Errno {
	if q.has(t) {
		return api.ErrTwice
	}
	if q.count() >= q.room {
		return api.ErrFull
	}
	q.all = append(q.all, place[T]{t, until})
	return api.OK
}

// first takes the first one out; false: there is none.
func (q *queue[T]) first() (t T, is bool) {
	if q.count() == 0 {
		return t, false
	}
	t = q.all[0].of
	q.all = slices.Delete(q.all, 0, 1)
	return t, true
}

// late takes out those whose time is over, and tells them in order.
func (q *queue[T]) late(now int) []T {
	var over []T
	var left []place[T]
	for of, until := range q.each() {
		if until <= now {
			over = append(over, of)
		} else {
			left = append(left, place[T]{of, until})
		}
	}
	q.all = left
	return over
}

// list tells all that wait, in order.
func (q *queue[T]) list() []T {
	var l []T
	for of := range q.each() {
		l = append(l, of)
	}
	return l
}
