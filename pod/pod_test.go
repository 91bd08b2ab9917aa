package pod

import (
	"math"
	"math/rand"
	"slices"
	"strconv"
	"testing"

	"damper/api"
)

// The calls that change a pod; a step is one of them, with a request's number
// where it has one.
const (
	up    = 'u'
	drain = 'd'
	kill  = 'k'
	take  = 't'
	give  = 'g'
)

type step struct {
	call rune
	id   int
}

func (x step) String() string {
	if x.call == take || x.call == give {
		return string(x.call) + strconv.Itoa(x.id)
	}
	return string(x.call)
}

// do calls a pod, and tells what it answers.
func do(p *Pod, x step) (lost []int, e api.Errno) {
	switch x.call {
	case up:
		return nil, p.Up()
	case drain:
		return nil, p.Drain()
	case kill:
		return p.Kill()
	case take:
		return nil, p.Take(x.id)
	}
	return nil, p.Give(x.id)
}

// at is a pod of conc in a state, with these requests. (Of Starting ones there are
// none that have any, nor of Dead ones, and no Draining ones that have none.)
func at(t *testing.T, conc, state int, has ...int) *Pod {
	t.Helper()
	p := New(conc)
	calls := map[int][]step{api.Ready: {{call: up}}, api.Draining: {{call: up}}, api.Dead: {{call: kill}}}[state]
	for _, id := range has {
		calls = append(calls, step{take, id})
	}
	if state == api.Draining {
		calls = append(calls, step{call: drain})
	}
	for _, x := range calls {
		if _, e := do(p, x); e != api.OK {
			t.Fatalf("P701: %v: %v", x, e)
		}
	}
	check(t, p, state, len(has))
	return p
}

func check(t *testing.T, p *Pod, state, load int) {
	t.Helper()
	if p.State() != state || p.Load() != load {
		t.Fatalf("P701: state %d, load %d, want %d, %d", p.State(), p.Load(), state, load)
	}
}

func want(t *testing.T, p *Pod, x step, no api.Errno, state, load int) {
	t.Helper()
	if lost, e := do(p, x); e != no || len(lost) != 0 {
		t.Fatalf("P701: %v = %v, %v, want %v", x, lost, e, no)
	}
	check(t, p, state, load)
}

func wantLost(t *testing.T, p *Pod, lost ...int) {
	t.Helper()
	load := p.Load()
	got, e := p.Kill()
	if e != api.OK || !slices.Equal(got, lost) || len(got) != load {
		t.Fatalf("P701: Kill = %v, %v, want %v; it had %d", got, e, lost, load)
	}
	check(t, p, api.Dead, 0)
}

func TestP701New(t *testing.T) {
	for conc := 1; conc <= api.MaxConc; conc++ {
		check(t, New(conc), api.Starting, 0)
	}
}

func TestP701Up(t *testing.T) {
	want(t, at(t, 2, api.Starting), step{call: up}, api.OK, api.Ready, 0)
	want(t, at(t, 2, api.Ready), step{call: up}, api.ErrState, api.Ready, 0)
	want(t, at(t, 2, api.Ready, 7), step{call: up}, api.ErrState, api.Ready, 1)
	want(t, at(t, 2, api.Draining, 7), step{call: up}, api.ErrState, api.Draining, 1)
	want(t, at(t, 2, api.Dead), step{call: up}, api.ErrState, api.Dead, 0)
}

func TestP701Drain(t *testing.T) {
	want(t, at(t, 2, api.Starting), step{call: drain}, api.OK, api.Dead, 0)
	want(t, at(t, 2, api.Ready), step{call: drain}, api.OK, api.Dead, 0)
	want(t, at(t, 2, api.Ready, 7), step{call: drain}, api.OK, api.Draining, 1)
	want(t, at(t, 2, api.Ready, 7, 3), step{call: drain}, api.OK, api.Draining, 2)
	want(t, at(t, 2, api.Draining, 7), step{call: drain}, api.ErrState, api.Draining, 1)
	want(t, at(t, 2, api.Dead), step{call: drain}, api.ErrState, api.Dead, 0)
	p := at(t, 2, api.Ready, 7)
	want(t, p, step{give, 7}, api.OK, api.Ready, 0) // what it had once does not count
	want(t, p, step{call: drain}, api.OK, api.Dead, 0)
}

func TestP701Kill(t *testing.T) {
	wantLost(t, at(t, 2, api.Starting))
	wantLost(t, at(t, 2, api.Ready))
	wantLost(t, at(t, 2, api.Ready, 7), 7)
	wantLost(t, at(t, 2, api.Draining, 7), 7)
	wantLost(t, at(t, 8, api.Ready, 10, 9, 100, 2, 1, 21, math.MaxInt32, 3), 1, 2, 3, 9, 10, 21, 100, math.MaxInt32) // by numbers, not by texts
	wantLost(t, at(t, 8, api.Draining, 5, 4, 6), 4, 5, 6)
	p := at(t, 8, api.Ready, 5, 4, 6)
	want(t, p, step{give, 5}, api.OK, api.Ready, 2)
	wantLost(t, p, 4, 6) // not what it had once
	for range 3 {
		want(t, p, step{call: kill}, api.ErrState, api.Dead, 0)
	}
	want(t, at(t, 2, api.Dead), step{call: kill}, api.ErrState, api.Dead, 0)
}

func TestP701Take(t *testing.T) {
	want(t, at(t, 2, api.Starting), step{take, 1}, api.ErrState, api.Starting, 0)
	want(t, at(t, 2, api.Draining, 1), step{take, 2}, api.ErrState, api.Draining, 1)
	want(t, at(t, 2, api.Dead), step{take, 1}, api.ErrState, api.Dead, 0)
	want(t, at(t, 2, api.Ready), step{take, 1}, api.OK, api.Ready, 1)
	want(t, at(t, 2, api.Ready, 1), step{take, math.MaxInt32}, api.OK, api.Ready, 2)
	want(t, at(t, 2, api.Ready, 1), step{take, 1}, api.ErrTwice, api.Ready, 1)
	want(t, at(t, 2, api.Ready, 1, 2), step{take, 3}, api.ErrFull, api.Ready, 2)
	for conc := 1; conc <= api.MaxConc; conc++ {
		p := at(t, conc, api.Ready)
		for id := 1; id <= conc; id++ {
			want(t, p, step{take, id}, api.OK, api.Ready, id)
		}
		want(t, p, step{take, conc + 1}, api.ErrFull, api.Ready, conc)
	}
}

// P6: of several errors the one that the promise names first.
func TestP701TakeErrorsInOrder(t *testing.T) {
	want(t, at(t, 2, api.Ready, 1, 2), step{take, 1}, api.ErrTwice, api.Ready, 2)       // ahead of ErrFull
	want(t, at(t, 2, api.Draining, 1), step{take, 1}, api.ErrState, api.Draining, 1)    // ahead of ErrTwice
	want(t, at(t, 2, api.Draining, 1, 2), step{take, 3}, api.ErrState, api.Draining, 2) // ahead of ErrFull
	want(t, at(t, 2, api.Draining, 1, 2), step{take, 1}, api.ErrState, api.Draining, 2)
}

func TestP701Give(t *testing.T) {
	want(t, at(t, 2, api.Starting), step{give, 1}, api.ErrNone, api.Starting, 0)
	want(t, at(t, 2, api.Ready), step{give, 1}, api.ErrNone, api.Ready, 0)
	want(t, at(t, 2, api.Dead), step{give, 1}, api.ErrNone, api.Dead, 0) // no ErrState
	want(t, at(t, 2, api.Ready, 1), step{give, 2}, api.ErrNone, api.Ready, 1)
	want(t, at(t, 2, api.Draining, 1), step{give, 2}, api.ErrNone, api.Draining, 1)
	want(t, at(t, 2, api.Ready, 1), step{give, 1}, api.OK, api.Ready, 0) // a Ready one stays Ready
	want(t, at(t, 2, api.Draining, 1), step{give, 1}, api.OK, api.Dead, 0)
	p := at(t, 3, api.Draining, 1, 2, 3)
	want(t, p, step{give, 2}, api.OK, api.Draining, 2)
	want(t, p, step{give, 2}, api.ErrNone, api.Draining, 2)
	want(t, p, step{give, 1}, api.OK, api.Draining, 1)
	want(t, p, step{give, 3}, api.OK, api.Dead, 0)
	want(t, p, step{give, 3}, api.ErrNone, api.Dead, 0)
	p = at(t, 3, api.Ready, 1, 2)
	wantLost(t, p, 1, 2)
	want(t, p, step{give, 1}, api.ErrNone, api.Dead, 0) // what was lost is not given
}

func TestP701WhatIsGivenMakesRoom(t *testing.T) {
	p := at(t, 1, api.Ready, 5)
	want(t, p, step{take, 6}, api.ErrFull, api.Ready, 1)
	want(t, p, step{give, 5}, api.OK, api.Ready, 0)
	want(t, p, step{take, 6}, api.OK, api.Ready, 1)
	want(t, p, step{give, 6}, api.OK, api.Ready, 0)
	want(t, p, step{take, 5}, api.OK, api.Ready, 1) // again: it has it no more
	want(t, p, step{take, 5}, api.ErrTwice, api.Ready, 1)
	wantLost(t, p, 5)
}

// log is the chapter in another form: it keeps all calls that were OK, and
// reckons each answer anew from the first of them on.
type log struct {
	conc int
	ok   []step
}

// has are the requests of the pod, in the order in which it took them.
func (l *log) has() (ids []int) {
	for _, x := range l.ok {
		switch x.call {
		case take:
			ids = append(ids, x.id)
		case give:
			ids = slices.DeleteFunc(ids, func(id int) bool { return id == x.id })
		case kill:
			ids = nil
		}
	}
	return ids
}

func (l *log) was(call rune) bool {
	return slices.ContainsFunc(l.ok, func(x step) bool { return x.call == call })
}

func (l *log) state() int {
	switch {
	case l.was(kill) || l.was(drain) && len(l.has()) == 0:
		return api.Dead
	case l.was(drain):
		return api.Draining
	case l.was(up):
		return api.Ready
	}
	return api.Starting
}

// refuses tells the error of a call.
func (l *log) refuses(x step) api.Errno {
	is := func(states ...int) bool { return slices.Contains(states, l.state()) }
	has := slices.Contains(l.has(), x.id)
	switch {
	case x.call == up && !is(api.Starting),
		x.call == drain && !is(api.Starting, api.Ready),
		x.call == kill && is(api.Dead),
		x.call == take && !is(api.Ready):
		return api.ErrState
	case x.call == take && has:
		return api.ErrTwice
	case x.call == take && len(l.has()) == l.conc:
		return api.ErrFull
	case x.call == give && !has:
		return api.ErrNone
	}
	return api.OK
}

// do calls the pod and the log, and holds what they answer against each other.
func (l *log) do(t *testing.T, p *Pod, x step) api.Errno {
	t.Helper()
	no := l.refuses(x)
	var lost []int
	if x.call == kill && no == api.OK {
		lost = l.has()
		slices.Sort(lost)
	}
	if no == api.OK {
		l.ok = append(l.ok, x)
	}
	got, e := do(p, x)
	if e != no || !slices.Equal(got, lost) {
		t.Fatalf("P701: conc %d, %v: %v, %v, want %v, %v", l.conc, l.ok, got, e, lost, no)
	}
	if p.State() != l.state() || p.Load() != len(l.has()) {
		t.Fatalf("P701: conc %d, %v: state %d, load %d, want %d, %d", l.conc, l.ok, p.State(), p.Load(), l.state(), len(l.has()))
	}
	return e
}

// Every order of a few calls, of pods with little room.
func TestP701EveryOrder(t *testing.T) {
	steps := []step{{call: up}, {call: drain}, {call: kill}, {take, 1}, {take, 2}, {give, 1}, {give, 2}}
	const deep, orders = 5, 7 * 7 * 7 * 7 * 7
	for conc := 1; conc <= 2; conc++ {
		for _, first := range [][]step{nil, {{call: up}}, {{call: up}, {take, 2}}} {
			for code := range orders {
				p, l := New(conc), &log{conc: conc}
				for _, x := range first {
					l.do(t, p, x)
				}
				for range deep {
					l.do(t, p, steps[code%len(steps)])
					code /= len(steps)
				}
			}
		}
	}
}

// some is any step; those that end a pod are rare.
func some(d *rand.Rand) step {
	x := step{call: take, id: 1 + d.Intn(12)}
	switch n := d.Intn(60); {
	case n < 1:
		x.call = kill
	case n < 2:
		x.call = drain
	case n < 12:
		x.call = up
	case n < 32:
		x.call = give
	}
	return x
}

func TestP701ByAnotherForm(t *testing.T) {
	d := rand.New(rand.NewSource(7))
	told, states := map[api.Errno]int{}, map[int]int{}
	for i := range 800 {
		conc := 1 + i%api.MaxConc
		p, l := New(conc), &log{conc: conc}
		for range 80 {
			told[l.do(t, p, some(d))]++
			states[p.State()]++
		}
	}
	for _, e := range []api.Errno{api.OK, api.ErrState, api.ErrTwice, api.ErrFull, api.ErrNone} {
		if told[e] == 0 {
			t.Errorf("P701: %v was not tried", e)
		}
	}
	for state := api.Starting; state <= api.Dead; state++ {
		if states[state] == 0 {
			t.Errorf("P701: state %d was not tried", state)
		}
	}
}

func TestP702NeverMoreAndDeadStays(t *testing.T) {
	d := rand.New(rand.NewSource(8))
	for i := range 400 {
		conc := 1 + i%api.MaxConc
		p, dead := New(conc), false
		for range 200 {
			do(p, some(d))
			if p.Load() > conc || p.Load() < 0 {
				t.Fatalf("P702: it has %d, of %d", p.Load(), conc)
			}
			if dead && p.State() != api.Dead {
				t.Fatalf("P702: it was Dead, and is %d", p.State())
			}
			dead = p.State() == api.Dead
			if dead && p.Load() != 0 {
				t.Fatalf("P702: it is Dead, and has %d", p.Load())
			}
		}
	}
}

func numbers() []int {
	return []int{math.MinInt, math.MinInt32, -8, -1, 0, 1, 2, 8, 9, 100, math.MaxInt32, 1<<32 + 1, math.MaxInt - 1, math.MaxInt}
}

// P1: nothing panics, whatever it is given, nor of a pod that New did not make;
// and room that is none or very much is made for nothing ahead.
func TestP1Any(t *testing.T) {
	pods := []*Pod{{}, {}}
	for _, conc := range numbers() {
		pods = append(pods, New(conc), New(conc))
	}
	for i, p := range pods {
		for _, id := range numbers() {
			p.Take(id)
			p.Give(id)
		}
		p.Up()
		for _, id := range numbers() {
			p.Take(id)
			p.Take(id)
			p.Load()
		}
		if i%2 == 0 {
			p.Drain()
		}
		for _, id := range numbers() {
			p.Give(id)
			p.Take(id)
			p.State()
		}
		p.Kill()
		p.Kill()
		p.Up()
		p.Drain()
	}
}

func TestP2LostIsNew(t *testing.T) {
	p, q := at(t, 3, api.Ready, 3, 1, 2), at(t, 3, api.Ready, 3, 1, 2)
	one, e := p.Kill()
	two, no := q.Kill()
	if e != api.OK || no != api.OK {
		t.Fatalf("P701: Kill: %v, %v", e, no)
	}
	for i := range one[:cap(one)] {
		one[:cap(one)][i] = -1
	}
	if !slices.Equal(two, []int{1, 2, 3}) {
		t.Errorf("P2: %v is shared", two)
	}
	check(t, p, api.Dead, 0)
	want(t, p, step{give, -1}, api.ErrNone, api.Dead, 0)
	want(t, p, step{call: kill}, api.ErrState, api.Dead, 0)
}

func TestP2LostStays(t *testing.T) {
	p := at(t, 3, api.Ready, 3, 1, 2)
	lost, _ := p.Kill()
	for _, id := range []int{1, 2, 3, 4} {
		p.Take(id)
		p.Give(id)
	}
	p.Kill()
	if !slices.Equal(lost, []int{1, 2, 3}) {
		t.Errorf("P2: %v", lost)
	}
}

// P3: the same again, however a map is gone through.
func TestP3TheSameAgain(t *testing.T) {
	ids := []int{41, 7, 100, 3, 65, 8, 12, 9}
	for range 200 {
		wantLost(t, at(t, 8, api.Ready, ids...), 3, 7, 8, 9, 12, 41, 65, 100)
	}
}

// P4: beside an error there is no list.
func TestP4NothingBesideAnError(t *testing.T) {
	p := at(t, 3, api.Ready, 3, 1)
	p.Kill()
	if lost, e := p.Kill(); e != api.ErrState || lost != nil {
		t.Errorf("P4: %v, %v", lost, e)
	}
}

// P5: a pod that has refused much tells what one tells that was not asked.
func TestP5RefusedChangesNothing(t *testing.T) {
	d := rand.New(rand.NewSource(5))
	for i := range 200 {
		conc := 1 + i%api.MaxConc
		p, l := New(conc), &log{conc: conc}
		for range 30 {
			for range 10 {
				if x := some(d); l.refuses(x) != api.OK {
					l.do(t, p, x)
				}
			}
			l.do(t, p, some(d))
		}
		plain := New(conc)
		for _, x := range l.ok {
			if _, e := do(plain, x); e != api.OK {
				t.Fatalf("P5: %v was OK of the other one, and is %v", x, e)
			}
		}
		check(t, plain, p.State(), p.Load())
		one, e := p.Kill()
		two, no := plain.Kill()
		if e != no || !slices.Equal(one, two) {
			t.Fatalf("P5: %v, %v, and of the other one %v, %v", one, e, two, no)
		}
	}
}

func TestP7PodsSideBySide(t *testing.T) {
	one, two := New(2), New(2)
	if one == two {
		t.Fatal("P7: one pod is answered twice")
	}
	want(t, one, step{call: up}, api.OK, api.Ready, 0)
	check(t, two, api.Starting, 0)
	want(t, two, step{call: up}, api.OK, api.Ready, 0)
	want(t, one, step{take, 1}, api.OK, api.Ready, 1)
	want(t, two, step{give, 1}, api.ErrNone, api.Ready, 0)
	want(t, two, step{take, 1}, api.OK, api.Ready, 1) // of one pod alone is it twice
	want(t, two, step{take, 2}, api.OK, api.Ready, 2)
	wantLost(t, two, 1, 2)
	want(t, one, step{call: drain}, api.OK, api.Draining, 1)
	want(t, one, step{give, 1}, api.OK, api.Dead, 0)
}
