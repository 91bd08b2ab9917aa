package pod

import (
	"cmp"
	"maps"
	"slices"

	"damper/api"
)

// held are things, each once, and no more than room of them.
type held[T cmp.Ordered] struct {
	room int
	all  map[T]struct{}
}

func (h *held[T]) count() int { return len(h.all) }

func (h *held[T]) has(t T) bool {
	_, is := h.all[t]
	return is
}

func (h *held[T]) add(t T) api.Errno {
	if h.has(t) {
		return api.ErrTwice
	}
	if h.count() >= h.room {
		return api.ErrFull
	}
	if h.all == nil { // not made ahead, by room, which may be any number
		h.all = map[T]struct{}{}
	}
	h.all[t] = struct{}{}
	return api.OK
}

func (h *held[T]) drop(t T) api.Errno {
	if !h.has(t) {
		return api.ErrNone
	}
	delete(h.all, t)
	return api.OK
}

// empty drops all, and tells what that was, rising: a map's own order is none.
func (h *held[T]) empty() []T {
	l := slices.Sorted(maps.Keys(h.all))
	h.all = nil
	return l
}
