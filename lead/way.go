package lead

import (
	"slices"

	"damper/api"
	"damper/roll"
)

// way is where a route goes from, and where to, since when, and how long the whole of
// it takes; and the route's table, as it was told last. The zero one leads nowhere.
type way struct {
	from, to     []api.Share
	since, whole int
	told         api.Table
}

// turn is the way behind a turn: another one, from where the route has come, if it is
// to go elsewhere, or at another pace. (Tags have no way: they are as they are told.)
func (w way) turn(t api.Table, now, whole int) way {
	if whole != w.whole || !slices.Equal(t.Shares, w.to) {
		w = way{from: w.told.Shares, to: t.Shares, since: now, whole: whole}
	}
	w.told = api.Table{Shares: roll.Shares(w.from, w.to, now-w.since, w.whole), Tags: t.Tags}
	return w
}
