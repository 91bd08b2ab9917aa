package gate

import (
	"cmp"
	"iter"
	"maps"
	"slices"
)

// sorted are things by their keys, and are gone through by these: a map has no order.
type sorted[K cmp.Ordered, V any] map[K]V

// each yields all, the least key first.
func (m sorted[K, V]) each() iter.Seq2[K, V] {
	return func(yield func(K, V) bool) {
		for _, k := range slices.Sorted(maps.Keys(m)) {
			if !yield(k, m[k]) {
				return
			}
		}
	}
}
