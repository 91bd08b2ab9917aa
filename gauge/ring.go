package gauge

import (
	"iter"
)

const keep = 60 // how many may be asked for

// ring has the things that were added last, up to keep of them: where it has so
// many, a new one takes the oldest one's place.
type ring[T any] struct {
	all  [keep]T
	next int // the place of the next one
	size int
}

func (r *ring[T]) add(t T) {
	r.all[r.next] = t
	r.next = (r.next + 1) % keep
	r.size = min(r.size+1, keep)
}

// newest yields all that it has, the newest one first.
func (r *ring[T]) newest() iter.Seq[T] {
	return func(yield func(T) bool) {
		at := r.next
		for range r.size {
			at = (at + keep - 1) % keep // keep is added, as % of a negative one is negative
			if !yield(r.all[at]) {
				return
			}
		}
	}
}
