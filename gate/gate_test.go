package gate

import (
	"math"
	"math/rand"
	"slices"
	"strconv"
	"strings"
	"testing"
	"unsafe"

	"damper/api"
	"damper/fleet"
)

// Revisions: a and b, one whose name begins as that of a, one of a greater number, which
// by names is ahead of one of a lesser number.
const a, b, a11, a2 = "a-1", "b-1", "a-11", "a-2"

func revs() []string { return []string{a, b, a11, a2} }

// calls are a Gate's, or those of what is held against one.
type calls interface {
	Arrive(id int, rev string, now int) []Fate
	Done(id int) (l []Fate, e api.Errno)
	Lost(ids []int) []Fate
	Flow(rev string) []Fate
	Tick(now int) []Fate
	Busy(rev string) int
	Inside(rev string) (waiting, sent []int)
	Seen(id int) bool
	Counts() (arrived, waiting, sent, ended int)
}

// told are fates as a text, parted by commas, as: `sent 7 2`, `waits 8`, `done 7`,
// `refused 8 timeout`; what a fate has beside that is told, too.
func told(l []Fate) string {
	var s []string
	for _, f := range l {
		id := strconv.Itoa(f.Id)
		switch f {
		case Fate{Id: f.Id, What: 1, Pod: f.Pod}:
			s = append(s, "sent "+id+" "+strconv.Itoa(f.Pod))
		case Fate{Id: f.Id, What: 2}:
			s = append(s, "waits "+id)
		case Fate{Id: f.Id, What: 3}:
			s = append(s, "done "+id)
		case Fate{Id: f.Id, What: 4, Why: f.Why}:
			s = append(s, "refused "+id+" "+f.Why)
		default:
			s = append(s, "wrong "+id+" "+strconv.Itoa(f.What)+" "+strconv.Itoa(f.Pod)+" "+f.Why)
		}
	}
	return strings.Join(s, ", ")
}

// world is a fleet, and a gate of it, or what is held against one.
type world struct {
	*fleet.Fleet
	calls
}

func newWorld(room, line, patience int) world {
	f := fleet.New(room)
	return world{f, New(f, line, patience)}
}

// up makes n pods of rev more, which are Ready; none waits for them.
func (w world) up(t *testing.T, rev string, conc, n int) {
	t.Helper()
	fit := 0
	for _, l := range w.Pods(rev) {
		if l.State <= api.Ready {
			fit++
		}
	}
	made, _ := w.Scale(rev, conc, fit+n)
	if len(made) != n {
		t.Fatalf("%d pods of %s, not %d", len(made), rev, n)
	}
	for _, id := range made {
		w.Up(id)
	}
}

// The wants make a call, and ask what it answers.

func wantFates(t *testing.T, what string, l []Fate, want string) {
	t.Helper()
	if got := told(l); got != want {
		t.Fatalf("%s: %q, want %q", what, got, want)
	}
}

func wantArrive(t *testing.T, g calls, id int, rev string, now int, want string) {
	t.Helper()
	wantFates(t, "P1401: Arrive "+strconv.Itoa(id)+" "+rev, g.Arrive(id, rev, now), want)
}

// wantDone: of an empty text, the request is not with a pod.
func wantDone(t *testing.T, g calls, id int, want string) {
	t.Helper()
	l, e := g.Done(id)
	wantFates(t, "P1402: Done "+strconv.Itoa(id), l, want)
	if no := map[bool]api.Errno{true: api.ErrNone}[want == ""]; e != no {
		t.Fatalf("P1402: Done %d: %v, want %v", id, e, no)
	}
}

func wantFlow(t *testing.T, g calls, rev, want string) {
	t.Helper()
	wantFates(t, "P1402: Flow "+rev, g.Flow(rev), want)
}

func wantLost(t *testing.T, g calls, ids []int, want string) {
	t.Helper()
	wantFates(t, "P1402: Lost", g.Lost(ids), want)
}

// wantKilled kills a pod, and tells the gate what was lost.
func wantKilled(t *testing.T, w world, pod int, want string) {
	t.Helper()
	lost, e := w.Kill(pod)
	if e != api.OK {
		t.Fatalf("Kill %d: %v", pod, e)
	}
	wantLost(t, w, lost, want)
}

func wantTick(t *testing.T, g calls, now int, want string) {
	t.Helper()
	wantFates(t, "P1402: Tick "+strconv.Itoa(now), g.Tick(now), want)
}

func wantInside(t *testing.T, g calls, rev string, waiting, sent []int) {
	t.Helper()
	w, s := g.Inside(rev)
	if !slices.Equal(w, waiting) || !slices.Equal(s, sent) {
		t.Fatalf("P1403: Inside %s: %v, %v, want %v, %v", rev, w, s, waiting, sent)
	}
	if n := g.Busy(rev); n != len(w)+len(s) {
		t.Fatalf("P1403: Busy %s: %d, of %v, %v", rev, n, w, s)
	}
}

func wantCounts(t *testing.T, g calls, arrived, waiting, sent, ended int) {
	t.Helper()
	if r, w, s, e := g.Counts(); r != arrived || w != waiting || s != sent || e != ended {
		t.Fatalf("P1403: Counts: %d, %d, %d, %d, want %d, %d, %d, %d", r, w, s, e, arrived, waiting, sent, ended)
	}
}

func wantSeen(t *testing.T, g calls, seen bool, ids ...int) {
	t.Helper()
	for _, id := range ids {
		if g.Seen(id) != seen {
			t.Fatalf("P1403: Seen %d: %v", id, !seen)
		}
	}
}

func wantLoads(t *testing.T, f *fleet.Fleet, rev string, want ...int) {
	t.Helper()
	var loads []int
	for _, l := range f.Pods(rev) {
		loads = append(loads, l.Load)
	}
	if !slices.Equal(loads, want) {
		t.Fatalf("loads of %s: %v, want %v", rev, loads, want)
	}
}

// to are the numbers from one to another one.
func to(from, to int) (l []int) {
	for id := from; id <= to; id++ {
		l = append(l, id)
	}
	return l
}

func TestExample(t *testing.T) { wantCounts(t, New(fleet.New(9), 2, 5), 0, 0, 0, 0) }

func TestP1401New(t *testing.T) {
	for room := 0; room <= 8; room++ {
		for patience := 1; patience <= 50; patience++ {
			g := newWorld(5, room, patience)
			wantCounts(t, g, 0, 0, 0, 0)
			wantSeen(t, g, false, -1, 0, 1, 2, math.MaxInt32)
			for _, rev := range append(revs(), "") {
				wantInside(t, g, rev, nil, nil)
				wantFlow(t, g, rev, "")
			}
			wantTick(t, g, 1000, "")
			wantDone(t, g, 1, "")
			wantLost(t, g, []int{1, 2}, "")
		}
	}
}

func TestP1401NoRoute(t *testing.T) {
	g := newWorld(5, 2, 5)
	g.up(t, a, 2, 1)
	wantArrive(t, g, 1, "", 0, "refused 1 no-route")
	wantSeen(t, g, true, 1)
	wantCounts(t, g, 1, 0, 0, 1)
	wantArrive(t, g, 1, "", 0, "refused 1 twice")
	wantArrive(t, g, 1, a, 0, "refused 1 twice") // it came, and has ended
	wantInside(t, g, a, nil, nil)
	wantInside(t, g, "", nil, nil)
	wantCounts(t, g, 1, 0, 0, 1)
	g = newWorld(5, 0, 5)
	wantArrive(t, g, 1, "", 0, "refused 1 no-route") // and not for overflow
}

// every is a gate in which each fate has been: 1 is sent, 2 was answered, 3 was lost, 4
// and 5 wait, 6 was refused for overflow, 7 for no route, 8 is late.
func every(t *testing.T) world {
	t.Helper()
	w := newWorld(5, 2, 5)
	w.up(t, b, 1, 1)
	wantArrive(t, w, 8, b, 0, "sent 8 1")
	w.up(t, b, 1, 1)
	wantArrive(t, w, 3, b, 0, "sent 3 2")
	wantKilled(t, w, 2, "refused 3 pod-lost")
	wantDone(t, w, 8, "done 8")
	w.up(t, a, 1, 1)
	wantArrive(t, w, 2, a, 0, "sent 2 3")
	wantDone(t, w, 2, "done 2")
	wantArrive(t, w, 1, a, 1, "sent 1 3")
	wantArrive(t, w, 9, a, 1, "waits 9")
	wantTick(t, w, 6, "refused 9 timeout")
	wantArrive(t, w, 5, a, 7, "waits 5")
	wantArrive(t, w, 4, a, 8, "waits 4")
	wantArrive(t, w, 6, a, 8, "refused 6 overflow")
	wantArrive(t, w, 7, "", 8, "refused 7 no-route")
	return w
}

// wantEvery asks whether all is as every left it.
func wantEvery(t *testing.T, w world) {
	t.Helper()
	wantCounts(t, w, 9, 2, 1, 6)
	wantInside(t, w, a, []int{5, 4}, []int{1})
	wantInside(t, w, b, nil, nil)
	wantSeen(t, w, true, to(1, 9)...)
	wantSeen(t, w, false, -1, 0, 10)
	wantLoads(t, w.Fleet, a, 1)
	wantLoads(t, w.Fleet, b, 0)
}

func TestP1401Twice(t *testing.T) {
	w := every(t)
	for _, rev := range []string{a, b, "", a11} {
		for id := 1; id <= 9; id++ {
			wantArrive(t, w, id, rev, 9, "refused "+strconv.Itoa(id)+" twice")
			wantEvery(t, w)
		}
	}
	wantTick(t, w, 12, "refused 5 timeout") // not until 9 and 5
	wantTick(t, w, 13, "refused 4 timeout")
	wantDone(t, w, 1, "done 1")
}

func TestP1401Sent(t *testing.T) {
	w := newWorld(9, 2, 5)
	w.Scale(a, 2, 3)
	wantArrive(t, w, 9, a, 0, "waits 9") // they are Starting
	wantTick(t, w, 5, "refused 9 timeout")
	for _, pod := range []int{1, 2, 3} {
		w.Up(pod)
	}
	w.up(t, b, 2, 1)
	for i, want := range []string{"sent 1 1", "sent 2 2", "sent 3 3", "sent 4 1", "sent 5 2", "sent 6 3", "waits 7"} {
		wantArrive(t, w, i+1, a, 6, want)
	}
	wantInside(t, w, a, []int{7}, to(1, 6))
	wantArrive(t, w, 8, b, 6, "sent 8 4")
	wantCounts(t, w, 9, 1, 7, 1)
	wantLoads(t, w.Fleet, a, 2, 2, 2)
}

// A Draining pod takes none.
func TestP1401DrainingPod(t *testing.T) {
	w := newWorld(9, 2, 5)
	w.up(t, a, 2, 1)
	wantArrive(t, w, 1, a, 0, "sent 1 1")
	w.Scale(a, 2, 0)
	wantArrive(t, w, 2, a, 0, "waits 2")
	wantDone(t, w, 1, "done 1")
	wantInside(t, w, a, []int{2}, nil)
	if w.Live() != 0 {
		t.Fatal("P1402: Done has not given the request back")
	}
}

// None is sent ahead of those who wait, though a pod has room.
func TestP1401BehindThoseWhoWait(t *testing.T) {
	w := newWorld(9, 2, 5)
	wantArrive(t, w, 5, a, 0, "waits 5")
	w.up(t, a, 8, 1)
	wantArrive(t, w, 3, a, 0, "waits 3")
	wantArrive(t, w, 4, a, 0, "refused 4 overflow")
	wantArrive(t, w, 6, a2, 0, "waits 6")
	w.up(t, b, 8, 1)
	wantArrive(t, w, 7, b, 0, "sent 7 2") // for b none waits
	wantFlow(t, w, a, "sent 5 1, sent 3 1")
	wantArrive(t, w, 8, a, 0, "sent 8 1")
	wantCounts(t, w, 6, 1, 4, 1)
}

func TestP1401Room(t *testing.T) {
	for room := 0; room <= 8; room++ {
		w := newWorld(9, room, 5)
		for i, rev := range revs() { // each has its own line
			var ids []int
			for n := range room {
				id := 100*i + 50 - n
				ids = append(ids, id)
				wantArrive(t, w, id, rev, 0, "waits "+strconv.Itoa(id))
				wantInside(t, w, rev, ids, nil)
			}
			for n := range 2 {
				id := 100*i + 51 + n
				wantArrive(t, w, id, rev, 0, "refused "+strconv.Itoa(id)+" overflow")
				wantInside(t, w, rev, ids, nil)
				wantSeen(t, w, true, id)
			}
			wantCounts(t, w, (i+1)*(room+2), (i+1)*room, 0, (i+1)*2)
		}
	}
}

// Who goes makes room for one more.
func TestP1401RoomAgain(t *testing.T) {
	w := newWorld(9, 2, 5)
	wantArrive(t, w, 1, a, 0, "waits 1")
	wantArrive(t, w, 2, a, 1, "waits 2")
	wantTick(t, w, 5, "refused 1 timeout")
	wantArrive(t, w, 3, a, 5, "waits 3")
	wantArrive(t, w, 4, a, 5, "refused 4 overflow")
	w.up(t, a, 1, 1)
	wantFlow(t, w, a, "sent 2 1")
	wantArrive(t, w, 5, a, 5, "waits 5")
	wantArrive(t, w, 6, a, 5, "refused 6 overflow")
	wantDone(t, w, 2, "done 2, sent 3 1")
	wantArrive(t, w, 7, a, 5, "waits 7")
	wantArrive(t, w, 8, a, 5, "refused 8 overflow")
	wantInside(t, w, a, []int{5, 7}, []int{3})
}

// Without room for who waits, one is sent, or refused.
func TestP1401NoRoomToWait(t *testing.T) {
	w := newWorld(9, 0, 5)
	wantArrive(t, w, 1, a, 0, "refused 1 overflow")
	w.up(t, a, 1, 1)
	wantArrive(t, w, 2, a, 0, "sent 2 1")
	wantArrive(t, w, 3, a, 0, "refused 3 overflow")
	wantDone(t, w, 2, "done 2")
	wantArrive(t, w, 4, a, 0, "sent 4 1")
	wantCounts(t, w, 4, 0, 1, 3)
}

func TestP1401Patience(t *testing.T) {
	for patience := 1; patience <= 50; patience++ {
		for _, now := range []int{0, 1, 7, 999999, 1000000, api.MaxTicks} {
			w := newWorld(9, 2, patience)
			wantArrive(t, w, 1, a, now, "waits 1")
			wantTick(t, w, now, "")
			wantTick(t, w, now+patience-1, "")
			wantTick(t, w, now+patience, "refused 1 timeout")
			wantTick(t, w, now+patience, "")
		}
	}
}

// Numbers of requests come in any order; a revision is any text but an empty one.
func TestP1401Edges(t *testing.T) {
	w := newWorld(9, 8, 5)
	var ids []int
	for _, id := range []int{math.MaxInt32, 1, 1 << 20, 2, math.MaxInt} {
		wantArrive(t, w, id, a, 0, "waits "+strconv.Itoa(id))
		ids = append(ids, id)
		wantInside(t, w, a, ids, nil)
	}
	for i, rev := range []string{"a", " ", "A-1", "a-0", "\x00", "\xff"} {
		id := 10 + i
		wantArrive(t, w, id, rev, 0, "waits "+strconv.Itoa(id))
		wantInside(t, w, rev, []int{id}, nil)
	}
	wantInside(t, w, a, ids, nil)
}

func TestP1402DoneOfNone(t *testing.T) {
	w := every(t)
	for _, id := range []int{2, 3, 4, 5, 6, 7, 8, 9, 10, 0, -1, math.MaxInt, math.MinInt} {
		wantDone(t, w, id, "")
		wantEvery(t, w)
	}
	wantDone(t, w, 1, "done 1, sent 5 3")
	wantDone(t, w, 1, "")
}

// Of all pods that have room by now, those who wait are sent, of its revision alone.
func TestP1402DoneFlows(t *testing.T) {
	w := newWorld(9, 8, 50)
	w.up(t, a, 1, 2)
	wantArrive(t, w, 1, a, 0, "sent 1 1")
	wantArrive(t, w, 2, a, 0, "sent 2 2")
	for id := 9; id >= 5; id-- {
		wantArrive(t, w, id, a, 0, "waits "+strconv.Itoa(id))
		wantArrive(t, w, 10*id, b, 0, "waits "+strconv.Itoa(10*id))
		wantArrive(t, w, 11*id, a11, 0, "waits "+strconv.Itoa(11*id))
	}
	w.up(t, b, 3, 1)
	wantDone(t, w, 2, "done 2, sent 9 2")
	w.up(t, a, 2, 1)
	wantDone(t, w, 1, "done 1, sent 8 1, sent 7 4, sent 6 4")
	wantInside(t, w, a, []int{5}, []int{6, 7, 8, 9})
	wantInside(t, w, b, []int{90, 80, 70, 60, 50}, nil)
	wantInside(t, w, a11, []int{99, 88, 77, 66, 55}, nil)
	wantDone(t, w, 9, "done 9, sent 5 2")
	wantDone(t, w, 7, "done 7") // none waits
	wantLoads(t, w.Fleet, a, 1, 1, 1)
	wantCounts(t, w, 17, 10, 3, 4)
}

// What is answered of a pod that drains makes no room on it; other pods of the revision
// take who waits.
func TestP1402DoneOfADrainingPod(t *testing.T) {
	w := newWorld(9, 8, 50)
	w.up(t, a, 2, 1)
	wantArrive(t, w, 1, a, 0, "sent 1 1")
	wantArrive(t, w, 2, a, 0, "sent 2 1")
	w.Scale(a, 2, 0)
	wantArrive(t, w, 3, a, 0, "waits 3")
	wantDone(t, w, 2, "done 2")
	w.up(t, a, 1, 1)
	wantDone(t, w, 1, "done 1, sent 3 2")
	wantLoads(t, w.Fleet, a, 1)
}

func TestP1402Flow(t *testing.T) {
	w := newWorld(9, 8, 50)
	for i, id := range []int{7, 3, 9, 1, 8} {
		wantArrive(t, w, id, a, i, "waits "+strconv.Itoa(id))
	}
	wantArrive(t, w, 2, b, 5, "waits 2")
	wantFlow(t, w, a, "")
	w.Scale(a, 1, 1)
	wantFlow(t, w, a, "") // it is Starting
	w.Up(1)
	wantFlow(t, w, b, "")
	wantFlow(t, w, "", "")
	wantFlow(t, w, a11, "")
	wantFlow(t, w, a, "sent 7 1")
	wantFlow(t, w, a, "")
	w.up(t, a, 2, 1)
	wantFlow(t, w, a, "sent 3 2, sent 9 2")
	wantInside(t, w, a, []int{1, 8}, []int{3, 7, 9})
	w.up(t, a, 8, 2)
	wantFlow(t, w, a, "sent 1 3, sent 8 4") // each to the pod that has least
	wantFlow(t, w, a, "")
	wantInside(t, w, a, nil, []int{1, 3, 7, 8, 9})
	wantInside(t, w, b, []int{2}, nil)
	wantTick(t, w, 100, "refused 2 timeout") // who is sent is not late
}

// Those who wait on keep their order, and until when they wait.
func TestP1402FlowLeavesOthersAsTheyAre(t *testing.T) {
	w := newWorld(9, 8, 5)
	for i, id := range []int{7, 3, 9, 1} {
		wantArrive(t, w, id, a, i, "waits "+strconv.Itoa(id))
	}
	w.up(t, a, 1, 1)
	wantFlow(t, w, a, "sent 7 1")
	wantTick(t, w, 5, "")
	wantTick(t, w, 6, "refused 3 timeout")
	wantDone(t, w, 7, "done 7, sent 9 1")
	wantTick(t, w, 7, "")
	wantTick(t, w, 8, "refused 1 timeout")
}

func TestP1402Lost(t *testing.T) {
	w := newWorld(9, 2, 5)
	w.up(t, a, 3, 1)
	for _, id := range []int{9, 2, 5} {
		wantArrive(t, w, id, a, 0, "sent "+strconv.Itoa(id)+" 1")
	}
	wantArrive(t, w, 1, a, 0, "waits 1")
	wantArrive(t, w, 6, a, 0, "waits 6")
	w.up(t, a, 3, 1)
	wantKilled(t, w, 1, "refused 2 pod-lost, refused 5 pod-lost, refused 9 pod-lost") // and none flows
	wantInside(t, w, a, []int{1, 6}, nil)
	wantCounts(t, w, 5, 2, 0, 3)
	wantLost(t, w, []int{2, 5, 9}, "")
	wantFlow(t, w, a, "sent 1 2, sent 6 2")
	wantKilled(t, w, 2, "refused 1 pod-lost, refused 6 pod-lost")
	wantCounts(t, w, 5, 0, 0, 5)
	for _, id := range []int{1, 2, 5, 6, 9} {
		wantDone(t, w, id, "")
		wantArrive(t, w, id, a, 0, "refused "+strconv.Itoa(id)+" twice")
	}
}

// A pod that had none loses none.
func TestP1402LostOfNone(t *testing.T) {
	w := newWorld(9, 2, 5)
	w.up(t, a, 3, 1)
	wantArrive(t, w, 1, a, 0, "sent 1 1")
	wantDone(t, w, 1, "done 1")
	wantKilled(t, w, 1, "")
	wantLost(t, w, nil, "")
	wantCounts(t, w, 1, 0, 0, 1)
}

// Only those that were sent and have not ended are lost; in the order that is told.
func TestP1402LostIsToldOfAny(t *testing.T) {
	w := every(t)
	wantLost(t, w, []int{2, 3, 4, 5, 6, 7, 8, 9, 10, 0, -1, math.MaxInt, math.MinInt}, "")
	wantEvery(t, w)
	wantLost(t, w, []int{4, 1, 2, 1, 99}, "refused 1 pod-lost")
	wantInside(t, w, a, []int{5, 4}, nil)
	wantDone(t, w, 1, "")

	w = newWorld(9, 2, 5)
	w.up(t, a, 4, 1)
	w.up(t, b, 4, 1)
	for i, rev := range []string{a, b, a, b} {
		w.Arrive(i+1, rev, 0)
	}
	wantLost(t, w, []int{3, 4, 1}, "refused 3 pod-lost, refused 4 pod-lost, refused 1 pod-lost")
	wantInside(t, w, a, nil, nil)
	wantInside(t, w, b, nil, []int{2})
	wantLoads(t, w.Fleet, a, 0) // its pod has it no more
	wantLoads(t, w.Fleet, b, 1)
	wantCounts(t, w, 4, 0, 1, 3)
}

// By names, which are in rising order of bytes; within a revision in order.
func TestP1402Tick(t *testing.T) {
	w := newWorld(9, 8, 5)
	names := []string{"b-1", "a-2", "a-11", "a-1", "a-10", "a", "Z", "a-", "b", "\xff"}
	for i, rev := range names {
		for _, id := range []int{100 - i, 50 - i} {
			wantArrive(t, w, id, rev, i%2, "waits "+strconv.Itoa(id))
		}
	}
	late := func(l ...string) string { return "refused " + strings.Join(l, " timeout, refused ") + " timeout" }
	wantTick(t, w, 4, "")
	wantTick(t, w, 5, late("94", "44", "96", "46", "98", "48", "92", "42", "100", "50"))
	wantTick(t, w, 6, late("95", "45", "93", "43", "97", "47", "99", "49", "91", "41"))
	wantTick(t, w, 7, "")
	wantCounts(t, w, 20, 0, 0, 20)
}

// Those who wait still do so in order; those of one revision end though those of another
// one stay.
func TestP1402TickOfSome(t *testing.T) {
	w := newWorld(9, 8, 5)
	for i, id := range []int{9, 4, 6, 5} {
		wantArrive(t, w, id, []string{a, b}[i%2], i, "waits "+strconv.Itoa(id))
	}
	wantTick(t, w, 5, "refused 9 timeout")
	wantInside(t, w, a, []int{6}, nil)
	wantInside(t, w, b, []int{4, 5}, nil)
	wantTick(t, w, 7, "refused 6 timeout, refused 4 timeout")
	wantInside(t, w, a, nil, nil)
	wantInside(t, w, b, []int{5}, nil)
	wantCounts(t, w, 4, 1, 0, 3)
	wantArrive(t, w, 9, a, 7, "refused 9 twice")
	wantArrive(t, w, 2, a, 7, "waits 2")
	wantTick(t, w, 1000000, "refused 2 timeout, refused 5 timeout")
}

// A pod whose request is answered or lost takes another one, also for who came late.
func TestP1402TickDoesNotFlow(t *testing.T) {
	w := newWorld(9, 8, 5)
	wantArrive(t, w, 1, a, 0, "waits 1")
	wantArrive(t, w, 2, a, 1, "waits 2")
	w.up(t, a, 2, 1)
	wantTick(t, w, 5, "refused 1 timeout")
	wantInside(t, w, a, []int{2}, nil)
	wantFlow(t, w, a, "sent 2 1")
}

func TestP1403(t *testing.T) {
	w := newWorld(9, 8, 5)
	w.up(t, a, 3, 1)
	for _, id := range []int{300, 7, 20} {
		wantArrive(t, w, id, a, 0, "sent "+strconv.Itoa(id)+" 1")
	}
	for _, id := range []int{9, 100, 8} {
		wantArrive(t, w, id, a, 0, "waits "+strconv.Itoa(id))
	}
	wantInside(t, w, a, []int{9, 100, 8}, []int{7, 20, 300}) // in order; by numbers
	wantArrive(t, w, 50, b, 0, "waits 50")
	wantArrive(t, w, 51, "", 0, "refused 51 no-route")
	wantInside(t, w, b, []int{50}, nil)
	wantInside(t, w, a11, nil, nil)
	wantInside(t, w, "", nil, nil)
	wantCounts(t, w, 8, 4, 3, 1)
	wantSeen(t, w, true, 300, 7, 20, 9, 100, 8, 50, 51)
	wantSeen(t, w, false, 0, -1, -7, 1, 6, 21, 52, 99, 101, math.MaxInt, math.MinInt)
	for range 3 { // to ask changes nothing
		wantInside(t, w, a, []int{9, 100, 8}, []int{7, 20, 300})
		wantCounts(t, w, 8, 4, 3, 1)
	}
	if n := w.Busy(a); n != 6 {
		t.Fatalf("P1403: Busy: %d", n)
	}
}

// step is a call, of the gate or of its fleet; a kill is told to Lost at once, and after
// an up it flows, as in what is built on a gate.
type step struct {
	call           rune
	rev            string
	id, conc, want int
}

const (
	arrive = 'a'
	done   = 'd'
	flow   = 'f'
	tick   = 't'
	scale  = 's'
	up     = 'u'
	kill   = 'k'
	lost   = 'l'
)

func (x step) String() string {
	return string(x.call) + " " + x.rev + " " + strconv.Itoa(x.id) + " " + strconv.Itoa(x.conc) + " " + strconv.Itoa(x.want)
}

// do makes a step at a time, and tells what comes of it.
func (w world) do(x step, now int) (l []Fate, e api.Errno) {
	switch x.call {
	case arrive:
		return w.Arrive(x.id, x.rev, now), api.OK
	case done:
		return w.Done(x.id)
	case flow:
		return w.Flow(x.rev), api.OK
	case tick:
		return w.Tick(now), api.OK
	case lost:
		return w.Lost([]int{x.id, x.id - 7, x.id + 3, x.id, x.id + 1, x.id - 2}), api.OK
	case scale:
		w.Scale(x.rev, x.conc, x.want)
	case up:
		if e = w.Up(x.id); e == api.OK && x.want == 0 {
			l = w.Flow(w.Of(x.id))
		}
	case kill:
		ids, no := w.Kill(x.id)
		l, e = w.Lost(ids), no
	}
	return l, e
}

// plain is the chapter in another form: all requests that came, in the order in which
// they did, each with what became of it last; whatever is asked goes through all.
type plain struct {
	f              *fleet.Fleet
	room, patience int
	all            []request
}

type request struct {
	id, until, what int
	rev             string
}

// those are the places of rev's requests of which that was told last, in order.
func (g *plain) those(rev string, what int) (l []int) {
	for i, q := range g.all {
		if q.rev == rev && q.what == what {
			l = append(l, i)
		}
	}
	return l
}

func (g *plain) ids(rev string, what int) (l []int) {
	for _, i := range g.those(rev, what) {
		l = append(l, g.all[i].id)
	}
	return l
}

func (g *plain) find(id int) int {
	return slices.IndexFunc(g.all, func(q request) bool { return q.id == id })
}

// was lets that be what became of the one at a place.
func (g *plain) was(i, what, pod int, why string) Fate {
	g.all[i].what = what
	return Fate{g.all[i].id, what, pod, why}
}

func (g *plain) Arrive(id int, rev string, now int) []Fate {
	if g.Seen(id) {
		return []Fate{{id, 4, 0, "twice"}}
	}
	i, n := len(g.all), len(g.those(rev, 2))
	g.all = append(g.all, request{id, now + g.patience, 0, rev})
	if rev == "" {
		return []Fate{g.was(i, 4, 0, "no-route")}
	}
	if n == 0 {
		if pod, is := g.f.Take(rev, id); is {
			return []Fate{g.was(i, 1, pod, "")}
		}
	}
	if n < g.room {
		return []Fate{g.was(i, 2, 0, "")}
	}
	return []Fate{g.was(i, 4, 0, "overflow")}
}

func (g *plain) Done(id int) (l []Fate, e api.Errno) {
	i := g.find(id)
	if i < 0 || g.all[i].what != 1 {
		return nil, api.ErrNone
	}
	rev, _ := g.f.Give(id)
	return append([]Fate{g.was(i, 3, 0, "")}, g.Flow(rev)...), api.OK
}

func (g *plain) Flow(rev string) (l []Fate) {
	for len(g.those(rev, 2)) > 0 {
		first := g.those(rev, 2)[0]
		pod, is := g.f.Take(rev, g.all[first].id)
		if !is {
			return l
		}
		l = append(l, g.was(first, 1, pod, ""))
	}
	return l
}

func (g *plain) Lost(ids []int) (l []Fate) {
	for _, id := range ids {
		if i := g.find(id); i >= 0 && g.all[i].what == 1 {
			g.f.Give(id)
			l = append(l, g.was(i, 4, 0, "pod-lost"))
		}
	}
	return l
}

func (g *plain) Tick(now int) (l []Fate) {
	var late []request
	for _, q := range g.all {
		if q.what == 2 && q.until <= now {
			late = append(late, q)
		}
	}
	slices.SortStableFunc(late, func(q, p request) int { return strings.Compare(q.rev, p.rev) })
	for _, q := range late {
		l = append(l, g.was(g.find(q.id), 4, 0, "timeout"))
	}
	return l
}

func (g *plain) Busy(rev string) int { return len(g.those(rev, 1)) + len(g.those(rev, 2)) }

func (g *plain) Inside(rev string) (waiting, sent []int) {
	return g.ids(rev, 2), slices.Sorted(slices.Values(g.ids(rev, 1)))
}

func (g *plain) Seen(id int) bool { return g.find(id) >= 0 }

func (g *plain) Counts() (arrived, waiting, sent, ended int) {
	for _, q := range g.all {
		switch q.what {
		case 2:
			waiting++
		case 1:
			sent++
		default:
			ended++
		}
	}
	return len(g.all), waiting, sent, ended
}

func plainWorld(room, line, patience int) world {
	f := fleet.New(room)
	return world{f, &plain{f: f, room: line, patience: patience}}
}

// alike holds what two worlds tell of themselves against each other; ids are up to a
// number, P1404 is asked of both.
func alike(t *testing.T, x step, w, v world, ids int) {
	t.Helper()
	for _, rev := range append(revs(), "") {
		waiting, sent := v.Inside(rev)
		wantInside(t, w, rev, waiting, sent)
		if !slices.Equal(w.Pods(rev), v.Pods(rev)) {
			t.Fatalf("%v: pods of %q: %v, want %v", x, rev, w.Pods(rev), v.Pods(rev))
		}
	}
	arrived, waiting, sent, ended := v.Counts()
	wantCounts(t, w, arrived, waiting, sent, ended)
	if arrived != waiting+sent+ended {
		t.Fatalf("P1404: %d came, %d wait, %d are sent, %d have ended", arrived, waiting, sent, ended)
	}
	for id := range ids + 1 {
		wantSeen(t, w, v.Seen(id), id)
	}
}

// both makes a step in two worlds, and holds what comes of it against each other.
func both(t *testing.T, x step, now int, w, v world) []Fate {
	t.Helper()
	l, e := w.do(x, now)
	m, no := v.do(x, now)
	if told(l) != told(m) || e != no {
		t.Fatalf("%v at %d: %q, %v, want %q, %v", x, now, told(l), e, told(m), no)
	}
	return l
}

// Every order of a few calls; some of them begin where a pod is up, or one is sent.
func TestInEveryOrder(t *testing.T) {
	few := []step{{arrive, a, 1, 0, 0}, {arrive, a, 2, 0, 0}, {arrive, b, 3, 0, 0}, {done, "", 2, 0, 0},
		{done, "", 1, 0, 0}, {call: tick}, {up, "", 1, 0, 1}, {flow, a, 0, 0, 0}, {kill, "", 1, 0, 0}}
	begins := [][]step{{}, {{up, "", 1, 0, 1}}, {{arrive, a, 4, 0, 0}, {arrive, b, 5, 0, 0}}}
	const deep = 5
	orders := 1
	for range deep {
		orders *= len(few)
	}
	for _, begin := range begins {
		for code := range orders {
			w, v := newWorld(3, 1+code%2, 2), plainWorld(3, 1+code%2, 2)
			steps := append([]step{{scale, a, 0, 1, 1}}, begin...)
			for range deep {
				steps = append(steps, few[code%len(few)])
				code /= len(few)
			}
			now := 0
			for _, x := range steps {
				if x.call == tick {
					now++
				}
				both(t, x, now, w, v)
			}
			alike(t, steps[len(steps)-1], w, v, 5)
		}
	}
}

// some is any step; requests have numbers up to one that is told. Mostly it is of what
// there is in a world.
func some(d *rand.Rand, w world, ids int) step {
	rev := revs()[d.Intn(4)]
	id, pod := 1+d.Intn(ids), 1+d.Intn(20)
	if _, sent := w.Inside(rev); len(sent) > 0 && d.Intn(4) > 0 {
		id = sent[d.Intn(len(sent))]
	}
	if l := w.Pods(rev); len(l) > 0 && d.Intn(4) > 0 {
		pod = l[d.Intn(len(l))].Id
	}
	switch n := d.Intn(40); {
	case n == 0:
		return step{arrive, "", 1 + d.Intn(ids), 0, 0}
	case n < 18:
		return step{arrive, rev, 1 + d.Intn(ids), 0, 0}
	case n < 23:
		return step{done, "", id, 0, 0}
	case n < 27:
		return step{scale, rev, 0, 1 + d.Intn(3), d.Intn(4)}
	case n < 32:
		return step{up, "", pod, 0, d.Intn(3)} // mostly it does not flow
	case n < 34:
		return step{kill, "", pod, 0, 0}
	case n < 35:
		return step{lost, "", id, 0, 0}
	case n < 36:
		return step{flow, rev, 0, 0, 0}
	}
	return step{call: tick}
}

func TestByAnotherForm(t *testing.T) {
	d := rand.New(rand.NewSource(14))
	tried := map[string]int{}
	for i := range 400 {
		room, line, patience, ids := 1+d.Intn(9), i%9, 1+d.Intn(8), 20+d.Intn(200)
		w, v := newWorld(room, line, patience), plainWorld(room, line, patience)
		now := 0
		for range 250 {
			x := some(d, w, ids)
			if x.call == tick {
				now += d.Intn(3)
			}
			l := both(t, x, now, w, v)
			alike(t, x, w, v, 20)
			wantTidy(t, x, w)
			for _, f := range l {
				tried[strconv.Itoa(f.What)+f.Why]++
			}
			tried[string(x.call)+strconv.Itoa(min(len(l), 3))]++
		}
	}
	for _, s := range []string{"1", "2", "3", "4twice", "4no-route", "4overflow", "4pod-lost", "4timeout", "d0", "d1", "d2", "d3", "f3", "t3", "k3", "u3", "l1", "l2"} {
		if tried[s] < 10 {
			t.Errorf("%q was tried %d times", s, tried[s])
		}
	}
}

// wantTidy asks whether no more is kept than of who is inside.
func wantTidy(t *testing.T, x step, w world) {
	t.Helper()
	g := w.calls.(*Gate)
	_, waiting, sent, _ := g.Counts()
	if len(g.stays) != waiting+sent {
		t.Fatalf("%v: %d stays are kept of %d", x, len(g.stays), waiting+sent)
	}
	for s, ids := range g.at {
		if len(ids) == 0 {
			t.Fatalf("%v: of %v none is kept", x, s)
		}
	}
	for rev, line := range g.lines {
		if line.Len() == 0 {
			t.Fatalf("%v: a line of %s is kept in which none wait", x, rev)
		}
	}
}

// life is what is told of a request, as it comes.
type life struct {
	rev  string
	at   int // when it came, by how many came ahead
	told []Fate
}

// judge holds fates against T1 and T2: what may follow what, and to whose pod.
func judge(t *testing.T, w world, lives map[int]*life, l []Fate) {
	t.Helper()
	for _, f := range l {
		if f.Why == "twice" {
			continue
		}
		q, last := lives[f.Id], 0
		if n := len(q.told); n > 0 {
			last = q.told[n-1].What
		}
		may := map[string][]int{"1": {0, 2}, "2": {0}, "3": {1}, "4no-route": {0}, "4overflow": {0}, "4timeout": {2}, "4pod-lost": {1}}
		if !slices.Contains(may[strconv.Itoa(f.What)+f.Why], last) {
			t.Fatalf("T1: %q behind %q", told([]Fate{f}), told(q.told))
		}
		if f.What == 1 && w.Of(f.Pod) != q.rev {
			t.Fatalf("T2: %d of %s to a pod of %s", f.Id, q.rev, w.Of(f.Pod))
		}
		q.told = append(q.told, f)
	}
}

// wantFirst asks (T2) that none who waits came ahead of one of its revision that was
// sent just now.
func wantFirst(t *testing.T, w world, lives map[int]*life, l []Fate) {
	t.Helper()
	for _, f := range l {
		if f.What != 1 {
			continue
		}
		waiting, _ := w.Inside(lives[f.Id].rev)
		for _, id := range waiting {
			if lives[id].at < lives[f.Id].at {
				t.Fatalf("T2: %d was sent ahead of %d", f.Id, id)
			}
		}
	}
}

func TestP1404OneFate(t *testing.T) {
	d := rand.New(rand.NewSource(4))
	for i := range 200 {
		room := i % 9
		w, lives, now := newWorld(8, room, 1+d.Intn(8)), map[int]*life{}, 0
		for range 300 {
			x := some(d, w, 200)
			if x.call == tick {
				now++
			}
			waiting, _ := w.Inside(x.rev)
			if x.call == arrive && lives[x.id] == nil {
				lives[x.id] = &life{rev: x.rev, at: len(lives)}
			}
			l, _ := w.do(x, now)
			if x.call == arrive && len(l) != 1 {
				t.Fatalf("P1401: %v: %q", x, told(l))
			}
			judge(t, w, lives, l)
			wantFirst(t, w, lives, l)
			for _, f := range l {
				if f.Why == "overflow" && len(waiting) != room {
					t.Fatalf("T3: %d waited, there is room for %d", len(waiting), room)
				}
			}
			wantLives(t, w, lives)
		}
	}
}

// wantLives asks whether those that came are as many as wait, are sent, and have ended,
// by what was told of each.
func wantLives(t *testing.T, w world, lives map[int]*life) {
	t.Helper()
	var many [5]int
	for id, q := range lives {
		if len(q.told) == 0 {
			t.Fatalf("T1: of %d nothing was told", id)
		}
		many[q.told[len(q.told)-1].What]++
	}
	wantCounts(t, w, len(lives), many[2], many[1], many[3]+many[4])
}

// What many revisions are asked for in turn is kept of none of them behind its end.
func TestP1403Many(t *testing.T) {
	const many = 20000
	w := newWorld(1, 1, 1)
	for i := range many {
		rev := "r-" + strconv.Itoa(i+1)
		wantArrive(t, w, i+1, rev, i, "waits "+strconv.Itoa(i+1))
		w.up(t, rev, 1, 1)
		if i%2 == 0 {
			wantFlow(t, w, rev, "sent "+strconv.Itoa(i+1)+" "+strconv.Itoa(i+1))
		}
		wantTick(t, w, i+1, []string{"", "refused " + strconv.Itoa(i+1) + " timeout"}[i%2])
		if i%2 == 0 {
			wantDone(t, w, i+1, "done "+strconv.Itoa(i+1))
		}
		wantInside(t, w, rev, nil, nil)
		w.Scale(rev, 1, 0)
	}
	wantCounts(t, w, many, 0, 0, many)
	wantSeen(t, w, true, 1, many/2, many)
	wantTidy(t, step{}, w)
}

func numbers() []int {
	return []int{math.MinInt, math.MinInt32, -8, -1, 0, 1, 2, 3, 8, 9, 50, 51, 1000000, 1000001, 1 << 20, 1<<20 + 1, math.MaxInt32, 1<<32 + 1, math.MaxInt - 1, math.MaxInt}
}

// P1: nothing panics, whatever it is given, nor of a gate that New did not make.
func TestP1Any(t *testing.T) {
	f := fleet.New(9)
	f.Scale(a, 2, 2)
	f.Up(1)
	gates := []*Gate{{}}
	for _, room := range numbers() {
		for _, patience := range numbers() {
			gates = append(gates, New(fleet.New(3), room, patience), New(f, room, patience))
		}
	}
	for _, g := range gates {
		for _, id := range numbers() {
			for _, rev := range []string{a, "", b, "\x00\xff"} {
				for _, now := range numbers() {
					g.Arrive(id, rev, now)
				}
				g.Flow(rev)
				g.Inside(rev)
				g.Busy(rev)
			}
			g.Done(id)
			g.Seen(id)
			g.Counts()
		}
		g.Lost(numbers())
		for _, now := range numbers() {
			g.Tick(now)
			g.Arrive(7+now%1000, a, 5)
		}
	}
}

func TestZeroGate(t *testing.T) {
	for i := range 8 {
		g := &Gate{}
		switch i { // each first
		case 0:
			wantDone(t, g, 1, "")
		case 1:
			wantLost(t, g, []int{1}, "")
		case 2:
			wantFlow(t, g, a, "")
		case 3:
			wantTick(t, g, 1, "")
		case 4:
			wantInside(t, g, a, nil, nil)
		case 5:
			wantSeen(t, g, false, 1)
		case 6:
			wantCounts(t, g, 0, 0, 0, 0)
		}
		wantArrive(t, g, 1, a, 0, "refused 1 overflow")
		wantArrive(t, g, 1, a, 0, "refused 1 twice")
		wantArrive(t, g, 2, "", 0, "refused 2 no-route")
		wantFlow(t, g, a, "")
		wantCounts(t, g, 2, 0, 0, 2)
	}
}

// P9: what may not be is refused, not clamped: it has not come.
func TestP9ArriveOutOfBounds(t *testing.T) {
	for _, n := range numbers() {
		w := every(t)
		if n < 1 {
			wantArrive(t, w, n, a, 9, "")
			wantArrive(t, w, n, "", 9, "")
			wantSeen(t, w, false, n)
		}
		if n < 0 || n > api.MaxTicks {
			wantArrive(t, w, 10, b, n, "")
			wantArrive(t, w, 10, "", n, "")
			wantArrive(t, w, 1, a, n, "")
			wantSeen(t, w, false, 10)
		}
		wantEvery(t, w)
		wantArrive(t, w, 10, b, 9, "sent 10 1")
	}
}

// A pod is killed, and the gate was not told yet: the request is with none, and is lost
// as soon as it is told.
func TestDoneOfAPodThatWasKilled(t *testing.T) {
	w := newWorld(3, 2, 5)
	w.up(t, a, 2, 1)
	wantArrive(t, w, 1, a, 0, "sent 1 1")
	wantArrive(t, w, 2, a, 0, "sent 2 1")
	wantArrive(t, w, 3, a, 0, "waits 3")
	ids, _ := w.Kill(1)
	wantDone(t, w, 1, "")
	wantCounts(t, w, 3, 1, 2, 0)
	wantLost(t, w, ids, "refused 1 pod-lost, refused 2 pod-lost")
	wantCounts(t, w, 3, 1, 0, 2)
}

// spoil overwrites a list, its spare room too.
func spoil[T any](l []T) {
	var zero T
	for i := range l[:cap(l)] {
		l[:cap(l)][i] = zero
	}
}

func TestP2AnswersAreNew(t *testing.T) {
	d := rand.New(rand.NewSource(2))
	for i := range 100 {
		w, v, now := newWorld(8, i%9, 5), plainWorld(8, i%9, 5), 0
		for range 150 {
			x := some(d, w, 100)
			if x.call == tick {
				now++
			}
			spoil(both(t, x, now, w, v))
			for _, rev := range revs() {
				waiting, sent := w.Inside(rev)
				wasSent := slices.Clone(sent)
				spoil(waiting)
				if !slices.Equal(sent, wasSent) {
					t.Fatal("P2: two lists of one answer share their room")
				}
				spoil(sent)
			}
			alike(t, x, w, v, 100)
		}
	}
}

// What was answered stays, though the gate goes on.
func TestP2AnswersStay(t *testing.T) {
	w := every(t)
	waiting, sent := w.Inside(a)
	fates, _ := w.Done(1)
	text := told(fates)
	for id := range 200 {
		w.Arrive(10+id, a, 9+id)
		w.Done(id)
		w.Tick(9 + id)
	}
	if !slices.Equal(waiting, []int{5, 4}) || !slices.Equal(sent, []int{1}) || told(fates) != text {
		t.Errorf("P2: %v, %v, %q", waiting, sent, told(fates))
	}
}

// bytesOf is a text, and the bytes that it lies in.
func bytesOf(s string) (string, []byte) {
	l := []byte(s)
	return unsafe.String(&l[0], len(l)), l
}

func TestP2TextsAreNotKept(t *testing.T) {
	w := newWorld(9, 2, 5)
	come := func(id int, want string) {
		rev, l := bytesOf(a)
		wantArrive(t, w, id, rev, 0, want)
		copy(l, "zzz")
	}
	come(1, "waits 1")
	come(2, "waits 2")
	come(3, "refused 3 overflow")
	wantInside(t, w, a, []int{1, 2}, nil)
	w.up(t, a, 1, 2)
	rev, l := bytesOf(a)
	wantFlow(t, w, rev, "sent 1 1, sent 2 2")
	copy(l, "zzz")
	wantInside(t, w, a, nil, []int{1, 2})
	wantDone(t, w, 1, "done 1")
	come(4, "sent 4 1")
	come(5, "waits 5")
	wantInside(t, w, a, []int{5}, []int{2, 4})
	rev, l = bytesOf(a)
	wantInside(t, w, rev, []int{5}, []int{2, 4})
	copy(l, "zzz")
	wantDone(t, w, 2, "done 2, sent 5 2")
	wantInside(t, w, a, nil, []int{4, 5})
	wantLost(t, w, []int{4}, "refused 4 pod-lost")
	wantInside(t, w, a, nil, []int{5})
	come(6, "sent 6 1")
	come(7, "waits 7")
	wantTick(t, w, 5, "refused 7 timeout")
	wantInside(t, w, "zzz", nil, nil)
	wantCounts(t, w, 7, 0, 2, 5)
}

func TestP2LostChangesNothing(t *testing.T) {
	w := every(t)
	ids := []int{4, 1, 1, 99, -1, 77, 78}
	wantLost(t, w, ids[:5], "refused 1 pod-lost")
	if !slices.Equal(ids, []int{4, 1, 1, 99, -1, 77, 78}) {
		t.Fatalf("P2: %v", ids)
	}
	spoil(ids)
	wantCounts(t, w, 9, 2, 0, 7)
	wantSeen(t, w, false, 0, 99)
}

// P3: the same again, however a map is gone through; and to ask changes nothing.
func TestP3TheSameAgain(t *testing.T) {
	for seed := range int64(20) {
		d := rand.New(rand.NewSource(seed))
		var steps []step
		var first []string
		for n := range 5 {
			w, now := newWorld(8, 4, 3), 0
			for i := range 200 {
				if n == 0 {
					steps = append(steps, some(d, w, 150))
				}
				x := steps[i]
				if x.call == tick {
					now++
				}
				for _, rev := range revs()[:n%4] {
					w.Inside(rev)
					w.Busy(rev)
					w.Counts()
				}
				l, e := w.do(x, now)
				got := told(l) + e.Error()
				if n == 0 {
					first = append(first, got)
				} else if got != first[i] {
					t.Fatalf("P3: %v: %q, and ahead %q", x, got, first[i])
				}
			}
		}
	}
}

// P4, P5: beside an error there is nothing, and a gate that was asked in vain tells what
// one tells that was not asked.
func TestP5RefusedChangesNothing(t *testing.T) {
	d := rand.New(rand.NewSource(5))
	for i := range 200 {
		w, v, now := newWorld(8, i%9, 5), newWorld(8, i%9, 5), 0
		for range 200 {
			x := some(d, w, 100)
			if x.call == tick {
				now++
			}
			l, e := w.do(x, now)
			if e != api.OK || x.call == arrive && l[0].Why == "twice" {
				if e != api.OK && l != nil {
					t.Fatalf("P4: %v: %q, %v", x, told(l), e)
				}
				continue
			}
			if m, no := v.do(x, now); told(l) != told(m) || no != api.OK {
				t.Fatalf("P5: %v: %q, and of the other one %q", x, told(l), told(m))
			}
			alike(t, x, w, v, 100)
		}
	}
}

func TestP7GatesSideBySide(t *testing.T) {
	w, v := newWorld(3, 1, 5), newWorld(3, 2, 9)
	if w.calls == v.calls {
		t.Fatal("P7: one gate is answered twice")
	}
	wantArrive(t, w, 1, a, 0, "waits 1")
	wantSeen(t, v, false, 1)
	wantCounts(t, v, 0, 0, 0, 0)
	v.up(t, a, 1, 1)
	wantFlow(t, w, a, "")
	wantArrive(t, v, 1, a, 0, "sent 1 1") // of one gate alone is it twice
	wantArrive(t, v, 2, a, 0, "waits 2")
	wantArrive(t, v, 3, a, 0, "waits 3")
	wantArrive(t, w, 2, a, 0, "refused 2 overflow")
	wantDone(t, w, 1, "")
	wantLost(t, w, []int{1, 2, 3}, "")
	wantTick(t, w, 5, "refused 1 timeout")
	wantTick(t, v, 5, "")
	wantDone(t, v, 1, "done 1, sent 2 1")
	wantTick(t, v, 9, "refused 3 timeout")
	wantInside(t, w, a, nil, nil)
	wantInside(t, v, a, nil, []int{2})
	wantCounts(t, w, 2, 0, 0, 2)
	wantCounts(t, v, 3, 0, 1, 2)
}
