package stamp

import (
	"iter"

	"damper/label"
)

// mark is which revision one is: that of a configuration at a generation. The zero
// one is none's.
type mark struct {
	config string
	gen    int
}

// markOf reads a revision's name; of a text that is none it is the zero mark.
func markOf(rev string) mark {
	config, gen, _ := label.Split(rev)
	return mark{config, gen}
}

// name is a mark's text; empty, if it is none's.
func (m mark) name() string { return label.Rev(m.config, m.gen) }

// ledger has things by the revisions that they are of. The greatest generations are
// kept beside them, so that to ask for the latest one does not go through all.
type ledger[T any] struct {
	all map[mark]T
	top map[string]int // of each configuration
}

// add takes a thing in, if there is none of that revision, and tells whether there
// was none: what is there stays as it is.
func (l *ledger[T]) add(m mark, t T) bool {
	if _, is := l.get(m); is {
		return false
	}
	if l.all == nil {
		l.all, l.top = map[mark]T{}, map[string]int{}
	}
	l.all[m] = t
	l.top[m.config] = max(l.top[m.config], m.gen)
	return true
}

func (l *ledger[T]) get(m mark) (t T, is bool) {
	t, is = l.all[m]
	return t, is
}

// latest tells the name of a configuration's latest revision; empty: none.
func (l *ledger[T]) latest(config string) string { return mark{config, l.top[config]}.name() }

// names yields the names of the revisions, in no order: a map has none.
func (l *ledger[T]) names() iter.Seq[string] {
	return func(yield func(string) bool) {
		for m := range l.all {
			if !yield(m.name()) {
				return
			}
		}
	}
}
