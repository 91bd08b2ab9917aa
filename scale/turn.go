package scale

import (
	"damper/api"
)

// turn is what one decision goes by.
type turn struct {
	last              State
	c                 api.Config
	ready, busy, idle int
	calm, sudden      int // what the stable, the short samples need
}

// pods are those that it grows from: with none ready, it grows from one.
func (t turn) pods() int { return max(1, t.ready) }

func (t turn) left() int {
	if t.sudden >= api.Factor*t.pods() {
		return api.Stable
	}
	return max(t.last.Left-1, 0)
}

func (t turn) want() int {
	n := t.calm
	for _, step := range steps() {
		n = step(t, n)
	}
	return n
}

// steps are what bears on how many, in order: each takes what the one ahead of
// it left, so that a later one holds where an earlier one says otherwise.
func steps() [6]func(turn, int) int {
	return [6]func(turn, int) int{
		turn.panicked,
		turn.kept,
		turn.slowUp,
		turn.slowDown,
		turn.least,
		turn.most,
	}
}

// panicked looks at the short samples, too, and lets nothing fall.
func (t turn) panicked(n int) int {
	if t.left() > 0 {
		return max(n, t.sudden, t.last.Want)
	}
	return n
}

// kept is one pod, where there are to be none, but somebody is there, or was till lately.
func (t turn) kept(n int) int {
	if n == 0 && (t.busy > 0 || t.last.Want > 0 && t.idle < t.c.Grace) {
		return 1
	}
	return n
}

func (t turn) slowUp(n int) int { return min(n, api.Up*t.pods()) }

func (t turn) slowDown(n int) int { return max(n, t.ready/api.Down) }

func (t turn) least(n int) int { return max(n, t.c.Min) }

func (t turn) most(n int) int { return min(n, t.c.Max) }
