package gate

import (
	"iter"

	"damper/api"
	"damper/wait"
)

// stay is how a request is inside: of which revision, and what was told of it last: it
// waits, or is sent. The zero one is that of a request that is not inside.
type stay struct {
	rev  string
	what int
}

// enter lets a request have that stay, and no other one.
func (g *Gate) enter(id int, s stay) {
	g.leave(id)
	g.stays[id] = s
	if g.at[s] == nil {
		g.at[s] = sorted[int, struct{}]{}
	}
	g.at[s][id] = struct{}{}
}

// leave lets a request be inside no more, if it is.
func (g *Gate) leave(id int) {
	s := g.stays[id]
	delete(g.stays, id)
	delete(g.at[s], id)
	if len(g.at[s]) == 0 {
		delete(g.at, s)
	}
}

// admit tells what becomes of a request that came just now: it is sent, or waits until
// then, or is refused.
func (g *Gate) admit(id int, rev string, until int) Fate {
	if rev == "" {
		return g.refuse(id, noRoute)
	}
	line := g.line(rev)
	if line.Len() == 0 { // none is sent ahead of those who wait
		if pod, is := g.fleet.Take(rev, id); is {
			return g.send(id, rev, pod)
		}
	}
	if line.Push(id, until) != api.OK {
		return g.refuse(id, overflow)
	}
	g.lines[rev] = line
	g.enter(id, stay{rev, waits})
	return Fate{Id: id, What: waits}
}

// send tells of a request that a pod has taken it.
func (g *Gate) send(id int, rev string, pod int) Fate {
	g.enter(id, stay{rev, isSent})
	return Fate{Id: id, What: isSent, Pod: pod}
}

// refuse ends a request.
func (g *Gate) refuse(id int, why string) Fate {
	g.leave(id)
	return Fate{Id: id, What: refused, Why: why}
}

// taken yields those who wait for rev, each with the pod that takes it, till none does:
// they wait no more.
func (g *Gate) taken(rev string) iter.Seq2[int, int] {
	return func(yield func(int, int) bool) {
		defer g.sweep(rev)
		line := g.line(rev)
		for _, id := range line.All() {
			pod, is := g.fleet.Take(rev, id)
			if !is {
				return
			}
			line.Pop()
			if !yield(id, pod) {
				return
			}
		}
	}
}

// line is rev's; where none wait, one that is kept only as soon as one does.
func (g *Gate) line(rev string) *wait.Line {
	if l, is := g.lines[rev]; is {
		return l
	}
	return wait.New(g.room)
}

// sweep forgets rev's line, if none wait in it.
func (g *Gate) sweep(rev string) {
	if g.line(rev).Len() == 0 {
		delete(g.lines, rev)
	}
}
