package shelf

import (
	"iter"
	"maps"
	"slices"

	"damper/api"
)

// object is what was put last, and its version.
type object[T any] struct {
	of      T
	version int
}

// row is what is there of one kind, by name.
type row[T any] struct{ there map[string]object[T] }

// kept is a row, of whichever kind.
type kept interface {
	drop(name string, version int) api.Errno
	names() iter.Seq[string]
}

// put puts what is asked for into one of the shelf's rows, and counts it.
func put[T any](s *Shelf, in *row[T], name string, of T, version int) (int, api.Errno) {
	if e := in.free(name, version); e != api.OK {
		return 0, e
	}
	s.count++
	in.set(name, object[T]{of, s.count})
	return s.count, api.OK
}

// free tells whether something of that name may be put by that version.
func (r *row[T]) free(name string, version int) api.Errno {
	if version != 0 {
		return r.held(name, version)
	}
	if _, is := r.there[name]; is {
		return api.ErrTwice
	}
	return api.OK
}

// held tells whether something of that name is there by that version.
func (r *row[T]) held(name string, version int) api.Errno {
	o, is := r.there[name]
	if !is {
		return api.ErrNone
	}
	if o.version != version {
		return api.ErrStale
	}
	return api.OK
}

func (r *row[T]) get(name string) (o object[T], is bool) {
	o, is = r.there[name]
	return o, is
}

func (r *row[T]) set(name string, o object[T]) {
	if r.there == nil {
		r.there = map[string]object[T]{}
	}
	r.there[name] = o
}

func (r *row[T]) drop(name string, version int) api.Errno {
	e := r.held(name, version)
	if e == api.OK {
		delete(r.there, name)
	}
	return e
}

// names yields the names of what is there, by names: a map's own order is none.
func (r *row[T]) names() iter.Seq[string] {
	return func(yield func(string) bool) {
		for _, name := range slices.Sorted(maps.Keys(r.there)) {
			if !yield(name) {
				return
			}
		}
	}
}
