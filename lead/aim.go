package lead

import (
	"iter"

	"damper/api"
	"damper/stamp"
)

// aimed yields a route's Targets, in order, each with the revision that it leads to,
// or with what is wrong with that.
func aimed(r api.Route, b *stamp.Book) iter.Seq2[api.Target, api.Errno] {
	return func(yield func(api.Target, api.Errno) bool) {
		for _, t := range r.Targets {
			var e api.Errno
			t.Rev, e = aim(t.Rev, r.Config, b)
			if !yield(t, e) {
				return
			}
		}
	}
}

// aim tells the revision of that name; without a name, the configuration's latest one
// that is proved.
func aim(rev, config string, b *stamp.Book) (string, api.Errno) {
	if rev == "" {
		return latest(config, b)
	}
	if _, is := b.Get(rev); !is {
		return "", api.ErrNone
	}
	if !b.Proved(rev) {
		return "", api.ErrState
	}
	return rev, api.OK
}

func latest(config string, b *stamp.Book) (string, api.Errno) {
	_, ready := b.Latest(config)
	if ready == "" {
		return "", api.ErrState
	}
	return ready, api.OK
}
