package fleet

import (
	"math"
	"math/rand"
	"slices"
	"strconv"
	"testing"

	"damper/api"
)

// The calls that change a fleet; a step is one of them: with a revision (scale,
// take), with the number of a pod (up, kill), of a request (take, give).
const (
	scale = 's'
	up    = 'u'
	kill  = 'k'
	take  = 't'
	give  = 'g'
)

type step struct {
	call           rune
	rev            string
	id, conc, want int
}

func (x step) String() string {
	switch x.call {
	case scale:
		return "scale " + x.rev + " " + strconv.Itoa(x.conc) + " " + strconv.Itoa(x.want)
	case take:
		return "take " + x.rev + " " + strconv.Itoa(x.id)
	}
	return string(x.call) + " " + strconv.Itoa(x.id)
}

// told is what a call tells.
type told struct {
	made, gone, lost []int
	pod              int
	rev              string
	is               bool
	e                api.Errno
}

func (x told) same(y told) bool {
	return slices.Equal(x.made, y.made) && slices.Equal(x.gone, y.gone) && slices.Equal(x.lost, y.lost) &&
		x.pod == y.pod && x.rev == y.rev && x.is == y.is && x.e == y.e
}

// nothing: it tells that nothing was done.
func (x told) nothing() bool { return !x.is && len(x.made)+len(x.gone) == 0 }

// calls are a Fleet's, or those of what is held against one.
type calls interface {
	Scale(rev string, conc, want int) (made, gone []int)
	Up(id int) api.Errno
	Kill(id int) (lost []int, e api.Errno)
	Take(rev string, request int) (pod int, is bool)
	Give(request int) (rev string, e api.Errno)
	Pods(rev string) []Look
	Of(id int) string
	Live() int
}

// do makes a step; is: a call that tells an error told none.
func do(f calls, x step) (a told) {
	switch x.call {
	case scale:
		a.made, a.gone = f.Scale(x.rev, x.conc, x.want)
		return a
	case take:
		a.pod, a.is = f.Take(x.rev, x.id)
		return a
	case up:
		a.e = f.Up(x.id)
	case kill:
		a.lost, a.e = f.Kill(x.id)
	case give:
		a.rev, a.e = f.Give(x.id)
	}
	a.is = a.e == api.OK
	return a
}

// Two revisions, and one whose name begins as that of the first.
const a, b, c = "a-1", "b-1", "a-11"

func revs() []string { return []string{a, b, c} }

// The wants make a call, and ask what it answers.

func wantScale(t *testing.T, f calls, rev string, conc, want int, made, gone []int) {
	t.Helper()
	if m, g := f.Scale(rev, conc, want); !slices.Equal(m, made) || !slices.Equal(g, gone) {
		t.Fatalf("P1101: Scale(%q, %d, %d) = %v, %v, want %v, %v", rev, conc, want, m, g, made, gone)
	}
}

func wantUp(t *testing.T, f calls, id int, no api.Errno) {
	t.Helper()
	if e := f.Up(id); e != no {
		t.Fatalf("P1102: Up(%d) = %v, want %v", id, e, no)
	}
}

func wantKill(t *testing.T, f calls, id int, no api.Errno, lost ...int) {
	t.Helper()
	if l, e := f.Kill(id); e != no || !slices.Equal(l, lost) {
		t.Fatalf("P1102: Kill(%d) = %v, %v, want %v, %v", id, l, e, lost, no)
	}
}

// wantTake: of pod 0, none takes it.
func wantTake(t *testing.T, f calls, rev string, request, pod int) {
	t.Helper()
	if p, is := f.Take(rev, request); p != pod || is != (pod > 0) {
		t.Fatalf("P1102: Take(%q, %d) = %d, %v, want %d", rev, request, p, is, pod)
	}
}

// wantGive: of an empty rev, no pod has it.
func wantGive(t *testing.T, f calls, request int, rev string) {
	t.Helper()
	no := api.OK
	if rev == "" {
		no = api.ErrNone
	}
	if r, e := f.Give(request); r != rev || e != no {
		t.Fatalf("P1102: Give(%d) = %q, %v, want %q, %v", request, r, e, rev, no)
	}
}

func wantPods(t *testing.T, f calls, rev string, pods ...Look) {
	t.Helper()
	if l := f.Pods(rev); !slices.Equal(l, pods) {
		t.Fatalf("P1101: Pods(%q) = %v, want %v", rev, l, pods)
	}
	for _, p := range pods {
		wantOf(t, f, rev, p.Id)
	}
}

func wantOf(t *testing.T, f calls, rev string, ids ...int) {
	t.Helper()
	for _, id := range ids {
		if r := f.Of(id); r != rev {
			t.Fatalf("P1101: Of(%d) = %q, want %q", id, r, rev)
		}
	}
}

func wantLive(t *testing.T, f calls, n int) {
	t.Helper()
	if got := f.Live(); got != n {
		t.Fatalf("P1101: Live = %d, want %d", got, n)
	}
}

// to are the numbers from one to another one.
func to(from, to int) (l []int) {
	for id := from; id <= to; id++ {
		l = append(l, id)
	}
	return l
}

// ready is a fleet of room 30 whose pods 1 to n are a's, Ready, and have as many
// requests each as loads says: pod p has p, p+n, p+2n, and so on.
func ready(t *testing.T, conc int, loads ...int) *Fleet {
	t.Helper()
	f, n := New(30), len(loads)
	wantScale(t, f, a, conc, n, to(1, n), nil)
	for id := 1; id <= n; id++ {
		wantUp(t, f, id, api.OK)
	}
	for r := range n * conc { // all are full ahead, so that none is freer than another one
		wantTake(t, f, a, r+1, r%n+1)
	}
	for r := range n * conc {
		if r/n >= loads[r%n] {
			wantGive(t, f, r+1, a)
		}
	}
	var pods []Look
	for i, load := range loads {
		pods = append(pods, Look{i + 1, api.Ready, load})
	}
	wantPods(t, f, a, pods...)
	return f
}

func TestP1101New(t *testing.T) {
	for room := 1; room <= 30; room++ {
		f := New(room)
		wantLive(t, f, 0)
		wantPods(t, f, a)
		wantPods(t, f, "")
		wantOf(t, f, "", -1, 0, 1, 2, math.MaxInt32)
	}
}

func TestP1101ScaleMakes(t *testing.T) {
	f := New(30)
	wantScale(t, f, a, 2, 0, nil, nil)
	wantScale(t, f, a, 2, 2, []int{1, 2}, nil)
	wantScale(t, f, a, 2, 2, nil, nil)
	wantScale(t, f, b, 1, 1, []int{3}, nil) // of all revisions the numbers go on
	wantScale(t, f, a, 2, 4, []int{4, 5}, nil)
	wantPods(t, f, a, Look{1, api.Starting, 0}, Look{2, api.Starting, 0}, Look{4, api.Starting, 0}, Look{5, api.Starting, 0})
	wantPods(t, f, b, Look{3, api.Starting, 0})
	wantPods(t, f, c)
	wantPods(t, f, "")
	wantLive(t, f, 5)
	wantOf(t, f, "", 0, -1, 6)
	for want := 0; want <= api.MaxScale; want++ {
		f := New(30)
		wantScale(t, f, a, 8, want, to(1, want), nil)
		wantLive(t, f, want)
	}
}

func TestP1101StartingAndReadyCount(t *testing.T) {
	f := ready(t, 2, 1, 2)
	wantScale(t, f, a, 2, 2, nil, nil)
	wantScale(t, f, a, 2, 3, []int{3}, nil)
	wantScale(t, f, a, 2, 3, nil, nil)
}

// A Draining one does not count for want, but needs room.
func TestP1101DrainingOnes(t *testing.T) {
	f := New(2)
	wantScale(t, f, a, 1, 2, []int{1, 2}, nil)
	wantUp(t, f, 1, api.OK)
	wantUp(t, f, 2, api.OK)
	wantTake(t, f, a, 7, 1)
	wantTake(t, f, a, 8, 2)
	wantScale(t, f, a, 1, 0, nil, []int{2, 1})
	wantPods(t, f, a, Look{1, api.Draining, 1}, Look{2, api.Draining, 1})
	wantLive(t, f, 2)
	wantScale(t, f, a, 1, 0, nil, nil) // they are not drained again
	wantScale(t, f, a, 1, 1, nil, nil)
	wantScale(t, f, b, 1, 1, nil, nil)
	wantGive(t, f, 7, a)
	wantPods(t, f, a, Look{2, api.Draining, 1})
	wantScale(t, f, a, 1, 2, []int{3}, nil)
	wantPods(t, f, a, Look{2, api.Draining, 1}, Look{3, api.Starting, 0})
	wantLive(t, f, 2)
}

func TestP1101NumbersAreNotHadTwice(t *testing.T) {
	f := New(3)
	wantScale(t, f, a, 1, 3, []int{1, 2, 3}, nil)
	wantScale(t, f, a, 1, 0, nil, []int{3, 2, 1})
	wantLive(t, f, 0)
	wantOf(t, f, "", 1, 2, 3)
	wantScale(t, f, b, 1, 2, []int{4, 5}, nil)
	wantKill(t, f, 5, api.OK)
	wantScale(t, f, b, 1, 2, []int{6}, nil)
	wantKill(t, f, 4, api.OK)
	wantKill(t, f, 6, api.OK)
	wantScale(t, f, a, 1, 1, []int{7}, nil)
	wantOf(t, f, "", 1, 2, 3, 4, 5, 6, 8)
}

func TestP1101Room(t *testing.T) {
	for room := 1; room <= 30; room++ {
		f, live := New(room), 0
		for _, rev := range []string{a, b, c, "d-1"} {
			n := min(10, room-live)
			wantScale(t, f, rev, 1, 10, to(live+1, live+n), nil)
			live += n
			wantLive(t, f, live)
		}
		wantLive(t, f, room)
		wantKill(t, f, 1, api.OK)
		wantScale(t, f, "d-1", 1, 10, []int{room + 1}, nil)
		wantScale(t, f, a, 1, 10, nil, nil)
		wantLive(t, f, room)
	}
}

// Pods are drained though there is no room for more.
func TestP1101FullFleetIsDrained(t *testing.T) {
	f := New(3)
	wantScale(t, f, a, 1, 2, []int{1, 2}, nil)
	wantScale(t, f, b, 1, 2, []int{3}, nil)
	wantScale(t, f, a, 1, 1, nil, []int{2})
	wantScale(t, f, b, 1, 2, []int{4}, nil)
	wantScale(t, f, b, 1, 0, nil, []int{4, 3})
	wantPods(t, f, a, Look{1, api.Starting, 0})
	wantLive(t, f, 1)
}

func TestP1101GoneStartingOnesFirst(t *testing.T) {
	f := ready(t, 2, 0, 1, 0)
	wantScale(t, f, a, 2, 6, []int{4, 5, 6}, nil)
	wantScale(t, f, a, 2, 5, nil, []int{6})
	wantScale(t, f, a, 2, 1, nil, []int{5, 4, 3, 1})
	wantPods(t, f, a, Look{2, api.Ready, 1})
	f = New(9)
	wantScale(t, f, a, 1, 3, []int{1, 2, 3}, nil)
	wantUp(t, f, 3, api.OK)
	wantUp(t, f, 2, api.OK)
	wantScale(t, f, a, 1, 1, nil, []int{1, 3}) // though its number is the least
	wantPods(t, f, a, Look{2, api.Ready, 0})
}

func TestP1101GoneReadyOnesThatHaveLeast(t *testing.T) {
	for _, x := range []struct {
		loads []int
		gone  []int
	}{
		{[]int{0}, []int{1}},
		{[]int{2}, []int{1}},
		{[]int{0, 0, 0}, []int{3, 2, 1}},
		{[]int{1, 1, 1}, []int{3, 2, 1}},
		{[]int{3, 2, 1, 0}, []int{4, 3, 2, 1}},
		{[]int{0, 1, 2, 3}, []int{1, 2, 3, 4}},
		{[]int{2, 1, 2, 0, 1, 0, 3}, []int{6, 4, 5, 2, 3, 1, 7}},
		{[]int{2, 1, 2, 1, 3, 3, 0, 0, 3, 1}, []int{8, 7, 10, 4, 2, 3, 1, 9, 6, 5}},
	} {
		for want := range x.loads {
			f := ready(t, 3, x.loads...)
			gone := x.gone[:len(x.gone)-want]
			wantScale(t, f, a, 3, want, nil, gone)
			var left []Look
			for i, load := range x.loads { // those without requests are Dead at once
				id, state := i+1, api.Ready
				if slices.Contains(gone, id) {
					state = api.Draining
				}
				if state == api.Ready || load > 0 {
					left = append(left, Look{id, state, load})
				}
			}
			wantPods(t, f, a, left...)
			wantLive(t, f, len(left))
		}
	}
}

// Of other revisions nothing counts, and none is drained.
func TestP1101ScaleOneRevisionAlone(t *testing.T) {
	f := New(9)
	wantScale(t, f, a, 1, 2, []int{1, 2}, nil)
	wantScale(t, f, c, 1, 2, []int{3, 4}, nil)
	wantScale(t, f, b, 1, 2, []int{5, 6}, nil)
	wantUp(t, f, 1, api.OK)
	wantScale(t, f, a, 1, 0, nil, []int{2, 1})
	wantScale(t, f, a, 1, 0, nil, nil)
	wantScale(t, f, "d-1", 1, 0, nil, nil)
	wantPods(t, f, c, Look{3, api.Starting, 0}, Look{4, api.Starting, 0})
	wantPods(t, f, b, Look{5, api.Starting, 0}, Look{6, api.Starting, 0})
	wantLive(t, f, 4)
}

// Conc is that of the pods that are made; those that are there keep theirs.
func TestP1101Conc(t *testing.T) {
	for conc := 1; conc <= api.MaxConc; conc++ {
		f := New(2)
		wantScale(t, f, a, conc, 1, []int{1}, nil)
		wantUp(t, f, 1, api.OK)
		wantScale(t, f, a, api.MaxConc+1-conc, 1, nil, nil)
		for id := 1; id <= conc; id++ {
			wantTake(t, f, a, id, 1)
		}
		wantTake(t, f, a, conc+1, 0)
		wantPods(t, f, a, Look{1, api.Ready, conc})
	}
}

func TestP1102Up(t *testing.T) {
	f := New(5)
	for _, id := range []int{math.MinInt32, -1, 0, 1, 2} {
		wantUp(t, f, id, api.ErrNone)
	}
	wantScale(t, f, a, 1, 3, []int{1, 2, 3}, nil)
	wantUp(t, f, 2, api.OK)
	wantPods(t, f, a, Look{1, api.Starting, 0}, Look{2, api.Ready, 0}, Look{3, api.Starting, 0})
	wantUp(t, f, 2, api.ErrState)
	wantUp(t, f, 4, api.ErrNone)
	wantUp(t, f, 0, api.ErrNone)
	wantTake(t, f, a, 7, 2)
	wantScale(t, f, a, 1, 0, nil, []int{3, 1, 2})
	wantUp(t, f, 2, api.ErrState) // Draining
	wantUp(t, f, 1, api.ErrNone)  // Dead: it is none any more
	wantUp(t, f, 3, api.ErrNone)
	wantPods(t, f, a, Look{2, api.Draining, 1})
}

func TestP1102Kill(t *testing.T) {
	f := ready(t, 3, 3, 0, 2, 1)
	wantScale(t, f, a, 3, 5, []int{5}, nil)
	for _, id := range []int{math.MinInt32, -1, 0, 6} {
		wantKill(t, f, id, api.ErrNone)
	}
	wantKill(t, f, 5, api.OK) // Starting
	wantKill(t, f, 2, api.OK)
	wantKill(t, f, 3, api.OK, 3, 7)
	wantScale(t, f, a, 3, 0, nil, []int{4, 1})
	wantKill(t, f, 4, api.OK, 4) // Draining
	wantPods(t, f, a, Look{1, api.Draining, 3})
	wantKill(t, f, 1, api.OK, 1, 5, 9)
	for id := 1; id <= 5; id++ {
		wantKill(t, f, id, api.ErrNone)
		wantUp(t, f, id, api.ErrNone)
		wantOf(t, f, "", id)
	}
	wantLive(t, f, 0)
}

func TestP1102LostByNumbers(t *testing.T) {
	f := New(1)
	wantScale(t, f, a, 8, 1, []int{1}, nil)
	wantUp(t, f, 1, api.OK)
	for _, r := range []int{10, 9, 100, 2, 1, 21, math.MaxInt32, 3} {
		wantTake(t, f, a, r, 1)
	}
	wantGive(t, f, 21, a)
	wantKill(t, f, 1, api.OK, 1, 2, 3, 9, 10, 100, math.MaxInt32)
}

// What was lost is with no pod: it is not given, and may come again.
func TestP1102LostIsWithNone(t *testing.T) {
	f := ready(t, 2, 2, 0)
	wantKill(t, f, 1, api.OK, 1, 3)
	wantGive(t, f, 1, "")
	wantGive(t, f, 3, "")
	wantTake(t, f, a, 3, 2)
	wantTake(t, f, a, 3, 0)
	wantGive(t, f, 3, a)
}

func TestP1102TakeLeastOfThem(t *testing.T) {
	for _, x := range []struct {
		loads []int
		pod   int
	}{
		{[]int{0}, 1},
		{[]int{2}, 1},
		{[]int{3}, 0},
		{[]int{0, 0, 0}, 1},
		{[]int{1, 0, 0}, 2},
		{[]int{1, 1, 0}, 3},
		{[]int{2, 1, 1}, 2},
		{[]int{2, 2, 1}, 3},
		{[]int{3, 2, 2}, 2},
		{[]int{3, 3, 2}, 3},
		{[]int{3, 3, 3}, 0},
		{[]int{1, 2, 3, 2, 1, 1}, 1},
		{[]int{2, 2, 3, 2, 2, 2, 2, 2, 2, 1}, 10}, // by numbers, not by texts
		{[]int{3, 2, 3, 3, 3, 3, 3, 3, 3, 2}, 2},
	} {
		f := ready(t, 3, x.loads...)
		wantTake(t, f, a, 99, x.pod)
		for i, p := range f.Pods(a) {
			want := x.loads[i]
			if p.Id == x.pod {
				want++
			}
			if p != (Look{i + 1, api.Ready, want}) {
				t.Fatalf("P1102: %v: %v has %d, want %d", x.loads, p.Id, p.Load, want)
			}
		}
	}
}

func TestP1102TakeReadyOnesAlone(t *testing.T) {
	f := New(9)
	wantTake(t, f, a, 7, 0)
	wantScale(t, f, a, 2, 3, []int{1, 2, 3}, nil)
	wantTake(t, f, a, 7, 0) // all are Starting
	wantUp(t, f, 2, api.OK)
	wantTake(t, f, a, 7, 2)
	wantTake(t, f, a, 8, 2) // those that are Starting have less
	wantTake(t, f, a, 9, 0)
	wantGive(t, f, 8, a)
	wantUp(t, f, 3, api.OK)
	wantScale(t, f, a, 2, 0, nil, []int{1, 3, 2})
	wantTake(t, f, a, 9, 0) // 2 is Draining, and has room
	wantPods(t, f, a, Look{2, api.Draining, 1})
}

func TestP1102TakeOfItsRevisionAlone(t *testing.T) {
	f := New(9)
	wantScale(t, f, a, 1, 1, []int{1}, nil)
	wantScale(t, f, c, 2, 1, []int{2}, nil)
	wantScale(t, f, b, 1, 1, []int{3}, nil)
	for id := 1; id <= 3; id++ {
		wantUp(t, f, id, api.OK)
	}
	wantTake(t, f, c, 7, 2)
	wantTake(t, f, c, 8, 2)
	wantTake(t, f, c, 9, 0)
	wantTake(t, f, "", 9, 0)
	wantTake(t, f, "a", 9, 0)
	wantTake(t, f, b, 9, 3)
	wantTake(t, f, a, 10, 1)
}

// One that has least, but no room, is not of these.
func TestP1102TakeOfThoseThatHaveRoom(t *testing.T) {
	f := New(9)
	wantScale(t, f, a, 1, 1, []int{1}, nil)
	wantScale(t, f, a, 3, 2, []int{2}, nil)
	wantScale(t, f, a, 8, 3, []int{3}, nil)
	for id := 1; id <= 3; id++ {
		wantUp(t, f, id, api.OK)
	}
	for i, pod := range []int{1, 2, 3, 2, 3, 2, 3, 3, 3, 3, 3, 3, 0} {
		wantTake(t, f, a, i+1, pod)
	}
	wantPods(t, f, a, Look{1, api.Ready, 1}, Look{2, api.Ready, 3}, Look{3, api.Ready, 8})
}

func TestP1102TakeTwice(t *testing.T) {
	f := New(9)
	wantScale(t, f, a, 2, 2, []int{1, 2}, nil)
	wantScale(t, f, b, 2, 1, []int{3}, nil)
	for id := 1; id <= 3; id++ {
		wantUp(t, f, id, api.OK)
	}
	wantTake(t, f, a, 7, 1)
	wantTake(t, f, a, 7, 0) // though 2 has room
	wantTake(t, f, b, 7, 0)
	wantTake(t, f, "d-1", 7, 0)
	wantPods(t, f, a, Look{1, api.Ready, 1}, Look{2, api.Ready, 0})
	wantPods(t, f, b, Look{3, api.Ready, 0})
	wantScale(t, f, a, 2, 0, nil, []int{2, 1})
	wantTake(t, f, b, 7, 0) // one that drains has it still
	wantGive(t, f, 7, a)
	wantTake(t, f, b, 7, 3)
	wantTake(t, f, a, 7, 0)
	wantGive(t, f, 7, b)
}

func TestP1102Give(t *testing.T) {
	f := ready(t, 2, 2, 1)
	for _, r := range []int{math.MinInt32, -1, 0, 4, 5} {
		wantGive(t, f, r, "")
	}
	wantScale(t, f, b, 1, 1, []int{3}, nil)
	wantUp(t, f, 3, api.OK)
	wantTake(t, f, b, 9, 3)
	wantGive(t, f, 1, a)
	wantGive(t, f, 1, "")
	wantPods(t, f, a, Look{1, api.Ready, 1}, Look{2, api.Ready, 1})
	wantGive(t, f, 9, b)
	wantGive(t, f, 2, a)
	wantGive(t, f, 3, a)
	wantPods(t, f, a, Look{1, api.Ready, 0}, Look{2, api.Ready, 0}) // a Ready one lives on
	wantPods(t, f, b, Look{3, api.Ready, 0})
}

func TestP1102GiveEndsADrainingOne(t *testing.T) {
	f := ready(t, 2, 2, 2)
	wantScale(t, f, a, 2, 0, nil, []int{2, 1})
	wantGive(t, f, 2, a)
	wantPods(t, f, a, Look{1, api.Draining, 2}, Look{2, api.Draining, 1})
	wantGive(t, f, 4, a)
	wantPods(t, f, a, Look{1, api.Draining, 2})
	wantOf(t, f, "", 2)
	wantLive(t, f, 1)
	wantUp(t, f, 2, api.ErrNone)
	wantKill(t, f, 2, api.ErrNone)
	wantGive(t, f, 4, "")
	wantKill(t, f, 1, api.OK, 1, 3)
	wantLive(t, f, 0)
}

func TestExample(t *testing.T) { wantLive(t, New(4), 0) }

// book is the chapter in another form: each pod that was, the Dead ones too, in the
// order in which they were made, with its state and its requests.
type book struct {
	room int
	pods []*entry
}

type entry struct {
	rev      string
	conc     int
	state    int
	requests []int
}

func (l *book) Live() (n int) {
	for _, p := range l.pods {
		if p.state != api.Dead {
			n++
		}
	}
	return n
}

func (l *book) Of(id int) string {
	if p := l.lives(id); p != nil {
		return p.rev
	}
	return ""
}

func (l *book) Pods(rev string) (looks []Look) {
	for i, p := range l.pods {
		if p.rev == rev && p.state != api.Dead {
			looks = append(looks, Look{i + 1, p.state, len(p.requests)})
		}
	}
	return looks
}

func (l *book) lives(id int) *entry {
	if id < 1 || id > len(l.pods) || l.pods[id-1].state == api.Dead {
		return nil
	}
	return l.pods[id-1]
}

// last is the last number of those of rev's pods that are in a state and have so
// many requests; 0: none.
func (l *book) last(rev string, state, load int) (id int) {
	for i, p := range l.pods {
		if p.rev == rev && p.state == state && len(p.requests) == load {
			id = i + 1
		}
	}
	return id
}

func (l *book) spare(rev string) int {
	if id := l.last(rev, api.Starting, 0); id > 0 {
		return id
	}
	for load := range api.MaxConc + 1 {
		if id := l.last(rev, api.Ready, load); id > 0 {
			return id
		}
	}
	return 0
}

func (l *book) fit(rev string) (n int) {
	for _, p := range l.pods {
		if p.rev == rev && (p.state == api.Starting || p.state == api.Ready) {
			n++
		}
	}
	return n
}

func (l *book) Scale(rev string, conc, want int) (made, gone []int) {
	for l.fit(rev) < want && l.Live() < l.room {
		l.pods = append(l.pods, &entry{rev: rev, conc: conc, state: api.Starting})
		made = append(made, len(l.pods))
	}
	for l.fit(rev) > want {
		id := l.spare(rev)
		p := l.lives(id)
		p.state = api.Draining
		p.end()
		gone = append(gone, id)
	}
	return made, gone
}

func (p *entry) end() {
	if p.state == api.Draining && len(p.requests) == 0 {
		p.state = api.Dead
	}
}

func (l *book) Up(id int) api.Errno {
	p := l.lives(id)
	switch {
	case p == nil:
		return api.ErrNone
	case p.state != api.Starting:
		return api.ErrState
	}
	p.state = api.Ready
	return api.OK
}

func (l *book) Kill(id int) (lost []int, e api.Errno) {
	p := l.lives(id)
	if p == nil {
		return nil, api.ErrNone
	}
	lost, p.requests, p.state = p.requests, nil, api.Dead
	slices.Sort(lost)
	return lost, api.OK
}

func (l *book) with(request int) *entry {
	for _, p := range l.pods {
		if slices.Contains(p.requests, request) {
			return p
		}
	}
	return nil
}

func (l *book) Take(rev string, request int) (pod int, is bool) {
	if l.with(request) != nil {
		return 0, false
	}
	for load := range api.MaxConc {
		for i, p := range l.pods {
			if p.rev == rev && p.state == api.Ready && len(p.requests) == load && load < p.conc {
				p.requests = append(p.requests, request)
				return i + 1, true
			}
		}
	}
	return 0, false
}

func (l *book) Give(request int) (rev string, e api.Errno) {
	p := l.with(request)
	if p == nil {
		return "", api.ErrNone
	}
	p.requests = slices.DeleteFunc(p.requests, func(r int) bool { return r == request })
	p.end()
	return p.rev, api.OK
}

// alike asks two all that they tell.
func alike(f, g calls, made int) bool {
	for _, rev := range append(revs(), "") {
		if !slices.Equal(f.Pods(rev), g.Pods(rev)) {
			return false
		}
	}
	for id := range made + 2 {
		if f.Of(id) != g.Of(id) {
			return false
		}
	}
	return f.Live() == g.Live()
}

// both calls the fleet and the book, and holds what they answer against each other.
func both(t *testing.T, f *Fleet, l *book, x step) told {
	t.Helper()
	got, want := do(f, x), do(l, x)
	if !got.same(want) {
		t.Fatalf("P1101, P1102: room %d, %v: %v, want %v; %v", l.room, x, got, want, f.Pods(x.rev))
	}
	if !alike(f, l, len(l.pods)) {
		t.Fatalf("P1101: room %d, %v: %v, want %v", l.room, x, f.Pods(x.rev), l.Pods(x.rev))
	}
	return got
}

// Every order of a few calls, of fleets with little room.
func TestEveryOrder(t *testing.T) {
	steps := []step{
		{call: scale, rev: a, conc: 2, want: 2}, {call: scale, rev: a, conc: 1, want: 1}, {call: scale, rev: a, conc: 1},
		{call: scale, rev: b, conc: 1, want: 1}, {call: up, id: 1}, {call: up, id: 2},
		{call: kill, id: 1}, {call: take, rev: a, id: 7}, {call: take, rev: b, id: 7}, {call: give, id: 7},
	}
	begun := []step{{call: scale, rev: a, conc: 2, want: 2}, {call: up, id: 2}, {call: take, rev: a, id: 8}}
	const deep, orders = 4, 10 * 10 * 10 * 10
	for room := 1; room <= 3; room++ {
		for ahead := range len(begun) + 1 {
			for code := range orders {
				f, l := New(room), &book{room: room}
				for _, x := range begun[:ahead] {
					both(t, f, l, x)
				}
				for range deep {
					both(t, f, l, steps[code%len(steps)])
					code /= len(steps)
				}
			}
		}
	}
}

// some is any step of a fleet that has made so many pods.
func some(d *rand.Rand, made int) step {
	x := step{rev: revs()[d.Intn(3)]}
	switch n := d.Intn(40); {
	case n < 5:
		x.call, x.conc, x.want = scale, 1+d.Intn(api.MaxConc), d.Intn(api.MaxScale+1)
	case n < 15:
		x.call, x.id = up, max(0, made+1-d.Intn(12))
	case n < 16:
		x.call, x.id = kill, d.Intn(made+2)
	case n < 30:
		x.call, x.id = take, 1+d.Intn(60)
	default:
		x.call, x.id = give, 1+d.Intn(60)
	}
	return x
}

func TestByAnotherForm(t *testing.T) {
	d := rand.New(rand.NewSource(11))
	kinds := map[string]int{}
	for i := range 400 {
		room := 1 + i%30
		f, l := New(room), &book{room: room}
		for range 200 {
			x := some(d, len(l.pods))
			got := both(t, f, l, x)
			if x.call != scale {
				kinds[string(x.call)+" "+got.e.Error()+" "+strconv.FormatBool(got.is)]++
			}
			if len(got.made) > 0 || len(got.gone) > 0 {
				kinds["made "+strconv.FormatBool(len(got.made) > 0)]++
			}
		}
	}
	for _, k := range []string{"made true", "made false", "u ok true", "u none false", "u state false", "k ok true",
		"k none false", "t ok true", "t ok false", "g ok true", "g none false"} {
		if kinds[k] == 0 {
			t.Errorf("P1101, P1102: %q was not tried: %v", k, kinds)
		}
	}
}

func TestP1103RoomAndOnePodEach(t *testing.T) {
	d := rand.New(rand.NewSource(12))
	for i := range 300 {
		room := 1 + i%30
		f, with, made := New(room), map[int]int{}, 0
		for range 300 {
			x := some(d, made)
			switch got := do(f, x); {
			case x.call == take && got.is:
				if with[x.id] != 0 {
					t.Fatalf("P1103: %d is with %d and with %d", x.id, with[x.id], got.pod)
				}
				with[x.id] = got.pod
			case x.call == give && got.is:
				delete(with, x.id)
			default:
				made += len(got.made)
				for _, r := range got.lost {
					delete(with, r)
				}
			}
			if f.Live() > room || f.Live() < 0 {
				t.Fatalf("P1103: %d live, of %d", f.Live(), room)
			}
			loads := map[int]int{}
			for _, pod := range with {
				loads[pod]++
			}
			for _, rev := range revs() {
				for _, p := range f.Pods(rev) {
					if p.Load != loads[p.Id] {
						t.Fatalf("P1103: %d has %d, and took %d", p.Id, p.Load, loads[p.Id])
					}
					delete(loads, p.Id)
				}
			}
			if len(loads) > 0 {
				t.Fatalf("P1103: of pods that do not live: %v", loads)
			}
		}
	}
}

func numbers() []int {
	return []int{math.MinInt, math.MinInt32, -8, -1, 0, 1, 2, 8, 9, 10, 11, 30, 31, 100, math.MaxInt32, 1<<32 + 1, math.MaxInt - 1, math.MaxInt}
}

// P1: every call ends, and nothing panics, whatever it is given, nor of a fleet that
// New did not make.
func TestP1Any(t *testing.T) {
	fleets := []*Fleet{{}}
	for _, room := range numbers() {
		fleets = append(fleets, New(room))
	}
	texts := []string{"", a, "a", "A-1", "a-0", "\x00\xff", "-"}
	for _, f := range fleets {
		for _, conc := range numbers() {
			for _, n := range numbers() {
				for _, rev := range texts {
					f.Scale(rev, conc, n)
					f.Take(rev, n)
				}
				f.Up(n)
				f.Of(n)
			}
			for _, rev := range texts {
				f.Scale(rev, 8, 5)
				for _, n := range numbers() {
					f.Take(rev, n)
					f.Take(rev, conc)
				}
				f.Pods(rev)
			}
			for _, n := range numbers() {
				f.Give(n)
				f.Kill(n)
			}
			f.Live()
		}
	}
}

// P9: what may not be is refused, not clamped.
func TestP9ScaleOutOfBounds(t *testing.T) {
	for _, room := range []int{5, 30, math.MaxInt} {
		for _, n := range numbers() {
			f, g := New(room), New(room)
			for _, f := range []*Fleet{f, g} {
				wantScale(t, f, a, 2, 3, []int{1, 2, 3}, nil)
			}
			if n < 0 || n > api.MaxScale {
				wantScale(t, f, a, 2, n, nil, nil)
				wantScale(t, f, b, 2, n, nil, nil)
			}
			if n < 1 || n > api.MaxConc {
				wantScale(t, f, a, n, 0, nil, nil)
				wantScale(t, f, a, n, 5, nil, nil)
				wantScale(t, f, b, n, 1, nil, nil)
			}
			if !alike(f, g, 3) {
				t.Fatalf("P9: %d: %v, want %v", n, f.Pods(a), g.Pods(a))
			}
			wantScale(t, f, b, 2, 1, []int{4}, nil)
		}
	}
}

// spoil overwrites a list, its spare room too.
func spoil[T any](l []T) {
	var zero T
	for i := range l[:cap(l)] {
		l[:cap(l)][i] = zero
	}
}

func TestP2AnswersAreNew(t *testing.T) {
	d, g := rand.New(rand.NewSource(2)), rand.New(rand.NewSource(2))
	for i := range 100 {
		f, l, made := New(1+i%30), New(1+i%30), 0
		for range 100 {
			x := some(d, made)
			got, want := do(f, x), do(l, some(g, made))
			if !got.same(want) {
				t.Fatalf("P2: %v: %v, want %v", x, got, want)
			}
			made += len(got.made)
			spoil(got.made)
			spoil(got.gone)
			spoil(got.lost)
			for _, rev := range revs() {
				spoil(f.Pods(rev))
			}
			if !alike(f, l, made) {
				t.Fatalf("P2: %v: what was answered is kept", x)
			}
		}
	}
}

// What was answered stays, though the fleet goes on.
func TestP2AnswersStay(t *testing.T) {
	f := ready(t, 2, 2, 1, 0)
	pods := f.Pods(a)
	made, _ := f.Scale(b, 1, 2)
	_, gone := f.Scale(a, 2, 1)
	lost, _ := f.Kill(1)
	for id := range 20 {
		f.Scale(revs()[id%3], 1, id%11)
		f.Up(id)
		f.Take(a, id)
	}
	if !slices.Equal(pods, []Look{{1, api.Ready, 2}, {2, api.Ready, 1}, {3, api.Ready, 0}}) ||
		!slices.Equal(made, []int{4, 5}) || !slices.Equal(gone, []int{3, 2}) || !slices.Equal(lost, []int{1, 4}) {
		t.Errorf("P2: %v, %v, %v, %v", pods, made, gone, lost)
	}
}

// P3: the same again, however a map is gone through.
func TestP3TheSameAgain(t *testing.T) {
	for seed := range int64(20) {
		first, d := New(30), rand.New(rand.NewSource(seed))
		var steps []step
		var tells []told
		for range 150 {
			x := some(d, 40)
			steps, tells = append(steps, x), append(tells, do(first, x))
		}
		for range 5 {
			f := New(30)
			for i, x := range steps {
				if got := do(f, x); !got.same(tells[i]) {
					t.Fatalf("P3: %v: %v, and ahead %v", x, got, tells[i])
				}
			}
			if !alike(f, first, 200) {
				t.Fatal("P3: pods that are others")
			}
		}
	}
}

// P4: beside an error, or a false, there is nothing.
func TestP4NothingBesideAnError(t *testing.T) {
	d := rand.New(rand.NewSource(4))
	for i := range 100 {
		f, made := New(1+i%30), 0
		for range 200 {
			x := some(d, made)
			got := do(f, x)
			made += len(got.made)
			if !got.is && (got.pod != 0 || got.rev != "" || got.lost != nil) {
				t.Fatalf("P4: %v: %v", x, got)
			}
		}
	}
}

// P5: a fleet that has refused much tells what one tells that was not asked.
func TestP5RefusedChangesNothing(t *testing.T) {
	d := rand.New(rand.NewSource(5))
	for i := range 200 {
		room := 1 + i%30
		f, plain, made := New(room), New(room), 0
		for range 200 {
			x := some(d, made)
			got := do(f, x)
			if got.nothing() {
				continue
			}
			made += len(got.made)
			if want := do(plain, x); !got.same(want) {
				t.Fatalf("P5: %v: %v, and of the other one %v", x, got, want)
			}
			if !alike(f, plain, made) {
				t.Fatalf("P5: %v: what was refused changed something", x)
			}
		}
	}
}

func TestP7FleetsSideBySide(t *testing.T) {
	one, two := New(2), New(2)
	if one == two {
		t.Fatal("P7: one fleet is answered twice")
	}
	wantScale(t, one, a, 1, 2, []int{1, 2}, nil)
	wantLive(t, two, 0)
	wantOf(t, two, "", 1, 2)
	wantScale(t, two, b, 1, 2, []int{1, 2}, nil) // its numbers begin anew, and it has its own room
	wantUp(t, one, 1, api.OK)
	wantTake(t, one, a, 7, 1)
	wantPods(t, two, b, Look{1, api.Starting, 0}, Look{2, api.Starting, 0})
	wantUp(t, two, 1, api.OK)
	wantGive(t, two, 7, "")
	wantTake(t, two, b, 7, 1) // of one fleet alone is it twice
	wantGive(t, one, 7, a)
	wantKill(t, two, 1, api.OK, 7)
	wantPods(t, one, a, Look{1, api.Ready, 0}, Look{2, api.Starting, 0})
}
