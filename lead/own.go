package lead

import (
	"iter"
	"maps"
	"slices"
	"strings"

	"damper/api"
)

// owned lists things that share no memory with what they come from, not even a text:
// what is handed in is not kept, and what is kept is not handed out.
func owned[T any](things iter.Seq[T], own func(T) T) []T {
	var l []T
	for t := range things {
		l = append(l, own(t))
	}
	return l
}

// byKeys yields what a map has by its keys: a map itself has no order.
func byKeys[T any](m map[string]T) iter.Seq[T] {
	return func(yield func(T) bool) {
		for _, k := range slices.Sorted(maps.Keys(m)) {
			if !yield(m[k]) {
				return
			}
		}
	}
}

func ownShare(s api.Share) api.Share {
	s.Rev = strings.Clone(s.Rev)
	return s
}

func ownTag(t api.TagTo) api.TagTo {
	return api.TagTo{Tag: strings.Clone(t.Tag), Rev: strings.Clone(t.Rev)}
}

func ownTable(t api.Table) api.Table {
	return api.Table{Shares: owned(slices.Values(t.Shares), ownShare), Tags: owned(slices.Values(t.Tags), ownTag)}
}
