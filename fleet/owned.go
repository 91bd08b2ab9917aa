package fleet

import (
	"cmp"
	"iter"
	"maps"
	"slices"

	"damper/api"
	"damper/pod"
)

// owned is a pod, and the revision that it is of.
type owned struct {
	rev string
	*pod.Pod
}

// each yields rev's pods that live, by Id: a map's own order is none.
func (f *Fleet) each(rev string) iter.Seq[Look] {
	return func(yield func(Look) bool) {
		for _, id := range slices.Sorted(maps.Keys(f.pods)) {
			p := f.pods[id]
			if p.rev == rev && !yield(Look{id, p.State(), p.Load()}) {
				return
			}
		}
	}
}

// fit yields those of rev's pods that take requests, or will; by Id.
func (f *Fleet) fit(rev string) iter.Seq[Look] {
	return func(yield func(Look) bool) {
		for l := range f.each(rev) {
			if (l.State == api.Starting || l.State == api.Ready) && !yield(l) {
				return
			}
		}
	}
}

// sooner orders pods that are Starting or Ready by which is drained sooner: one
// that is Starting (the lesser state), then one that has less, then one with a
// greater number.
func sooner(a, b Look) int {
	return cmp.Or(cmp.Compare(a.State, b.State), cmp.Compare(a.Load, b.Load), cmp.Compare(b.Id, a.Id))
}

// freer orders pods by which is handed a request: one that has less, then one with
// a lesser number.
func freer(a, b Look) int {
	return cmp.Or(cmp.Compare(a.Load, b.Load), cmp.Compare(a.Id, b.Id))
}
