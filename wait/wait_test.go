package wait

import (
	"math"
	"math/rand"
	"slices"
	"strconv"
	"testing"

	"damper/api"
)

// The calls that change a line; a step is one of them, with a request's number
// and its until, or (of late) with now.
const (
	push = 'u'
	pop  = 'o'
	late = 'l'
)

type step struct {
	call   rune
	id, at int
}

func (x step) String() string {
	switch x.call {
	case push:
		return "push " + strconv.Itoa(x.id) + " until " + strconv.Itoa(x.at)
	case late:
		return "late " + strconv.Itoa(x.at)
	}
	return "pop"
}

// told is what a call tells.
type told struct {
	ids []int
	is  bool
	e   api.Errno
}

func (a told) same(b told) bool { return a.is == b.is && a.e == b.e && slices.Equal(a.ids, b.ids) }

// line is what a step is made on: a Line, or what is held against one.
type line interface {
	Push(id, until int) api.Errno
	Pop() (id int, is bool)
	Late(now int) []int
}

// do makes a step; what Pop tells is a list of one number, whichever this is.
func do(l line, x step) (a told) {
	switch x.call {
	case push:
		a.e = l.Push(x.id, x.at)
	case late:
		a.ids = l.Late(x.at)
	default:
		id, is := l.Pop()
		a.ids, a.is = []int{id}, is
	}
	return a
}

// who is a request, and until when it waits.
type who struct{ id, until int }

// of is a line of room, in which these wait.
func of(t *testing.T, room int, has ...who) *Line {
	t.Helper()
	l := New(room)
	var ids []int
	for _, w := range has {
		if e := l.Push(w.id, w.until); e != api.OK {
			t.Fatalf("P801: Push(%d, %d) = %v", w.id, w.until, e)
		}
		ids = append(ids, w.id)
	}
	check(t, l, ids...)
	return l
}

func check(t *testing.T, l *Line, ids ...int) {
	t.Helper()
	if got := l.All(); !slices.Equal(got, ids) || l.Len() != len(ids) {
		t.Fatalf("P801: All %v, Len %d, want %v", got, l.Len(), ids)
	}
}

// wantPush, wantPop, wantLate make a call, and ask what it answers, and which wait then.
func wantPush(t *testing.T, l *Line, id, until int, no api.Errno, then ...int) {
	t.Helper()
	if e := l.Push(id, until); e != no {
		t.Fatalf("P801: Push(%d, %d) = %v, want %v", id, until, e, no)
	}
	check(t, l, then...)
}

func wantPop(t *testing.T, l *Line, id int, then ...int) {
	t.Helper()
	if got, is := l.Pop(); got != id || !is {
		t.Fatalf("P801: Pop = %d, %v, want %d", got, is, id)
	}
	check(t, l, then...)
}

func wantNone(t *testing.T, l *Line) {
	t.Helper()
	if got, is := l.Pop(); got != 0 || is {
		t.Fatalf("P801: Pop = %d, %v, want none", got, is)
	}
	check(t, l)
}

func wantLate(t *testing.T, l *Line, now int, ids []int, then ...int) {
	t.Helper()
	if got := l.Late(now); !slices.Equal(got, ids) {
		t.Fatalf("P801: Late(%d) = %v, want %v", now, got, ids)
	}
	check(t, l, then...)
}

func TestP801New(t *testing.T) {
	for room := 0; room <= 8; room++ {
		l := New(room)
		check(t, l)
		wantNone(t, l)
		wantLate(t, l, math.MaxInt32, nil)
	}
}

func TestP801PushIsLast(t *testing.T) {
	l := New(4)
	wantPush(t, l, 7, 9, api.OK, 7)
	wantPush(t, l, 2, 3, api.OK, 7, 2) // neither by number nor by until
	wantPush(t, l, math.MaxInt32, 5, api.OK, 7, 2, math.MaxInt32)
	wantPush(t, l, 1, 9, api.OK, 7, 2, math.MaxInt32, 1) // an until may be had twice
}

func TestP801PushTwice(t *testing.T) {
	for _, id := range []int{7, 2, 9} {
		for _, until := range []int{1, 5, 99} { // whichever until it has now
			wantPush(t, of(t, 4, who{7, 5}, who{2, 5}, who{9, 5}), id, until, api.ErrTwice, 7, 2, 9)
		}
	}
}

func TestP801PushTwiceKeepsItsUntil(t *testing.T) {
	l := of(t, 3, who{7, 5}, who{2, 5})
	wantPush(t, l, 7, 9, api.ErrTwice, 7, 2)
	wantPush(t, l, 2, 1, api.ErrTwice, 7, 2)
	wantLate(t, l, 4, nil, 7, 2)
	wantLate(t, l, 5, []int{7, 2})
}

func TestP801PushFull(t *testing.T) {
	for room := 0; room <= 8; room++ {
		l := New(room)
		var ids []int
		for id := 1; id <= room; id++ {
			ids = append(ids, id)
			wantPush(t, l, id, 5, api.OK, ids...)
		}
		wantPush(t, l, room+1, 5, api.ErrFull, ids...)
		wantPush(t, l, room+2, 9, api.ErrFull, ids...)
	}
}

// P6: of several errors the one that the promise names first.
func TestP801PushErrorsInOrder(t *testing.T) {
	l := of(t, 2, who{7, 5}, who{2, 5})
	wantPush(t, l, 7, 5, api.ErrTwice, 7, 2)
	wantPush(t, l, 2, 6, api.ErrTwice, 7, 2)
	wantPush(t, l, 1, 5, api.ErrFull, 7, 2)
}

func TestP801Pop(t *testing.T) {
	l := of(t, 3, who{7, 9}, who{2, 3}, who{9, 4})
	wantPop(t, l, 7, 2, 9)
	wantPop(t, l, 2, 9)
	wantPop(t, l, 9)
	wantNone(t, l)
	wantNone(t, l)
}

// Who is out makes room, and may come again, as the last one.
func TestP801OutMakesRoom(t *testing.T) {
	l := of(t, 2, who{7, 9}, who{2, 3})
	wantPop(t, l, 7, 2)
	wantPush(t, l, 7, 4, api.OK, 2, 7)
	wantPush(t, l, 1, 4, api.ErrFull, 2, 7)
	wantLate(t, l, 3, []int{2}, 7)
	wantPush(t, l, 2, 5, api.OK, 7, 2)
	wantLate(t, l, 4, []int{7}, 2) // by the until that it has now, not by the one it had
	wantLate(t, l, 4, nil, 2)
	wantPush(t, l, 1, 4, api.OK, 2, 1)
	wantPush(t, l, 7, 4, api.ErrFull, 2, 1)
}

func TestP801Late(t *testing.T) {
	has := []who{{7, 5}, {2, 3}, {9, 4}, {1, 5}, {4, 3}}
	for _, c := range []struct {
		now          int
		ids, waiting []int
	}{
		{0, nil, []int{7, 2, 9, 1, 4}},
		{2, nil, []int{7, 2, 9, 1, 4}},
		{3, []int{2, 4}, []int{7, 9, 1}}, // now itself is late
		{4, []int{2, 9, 4}, []int{7, 1}}, // in the line's order, not by until
		{5, []int{7, 2, 9, 1, 4}, nil},
		{math.MaxInt32, []int{7, 2, 9, 1, 4}, nil},
	} {
		l := of(t, 5, has...)
		wantLate(t, l, c.now, c.ids, c.waiting...)
		wantLate(t, l, c.now, nil, c.waiting...) // they do not wait any more
	}
}

func TestP801LateOnesAreNotPopped(t *testing.T) {
	l := of(t, 3, who{7, 3}, who{2, 5}, who{9, 3})
	wantLate(t, l, 3, []int{7, 9}, 2)
	wantPop(t, l, 2)
	wantNone(t, l)
	l = of(t, 3, who{7, 3}, who{2, 5}, who{9, 3})
	wantPop(t, l, 7, 2, 9)
	wantLate(t, l, 3, []int{9}, 2)
}

// Only Late asks for until: one whose until is over waits till it is asked.
func TestP801UntilIsAskedByLateAlone(t *testing.T) {
	l := of(t, 3, who{7, 9})
	wantLate(t, l, 8, nil, 7)
	wantPush(t, l, 2, 3, api.OK, 7, 2) // its until is behind an earlier now
	wantPush(t, l, 2, 9, api.ErrTwice, 7, 2)
	wantPop(t, l, 7, 2)
	wantPop(t, l, 2)
	l = of(t, 3, who{7, 9}, who{2, 4})
	wantLate(t, l, 1, nil, 7, 2)
	wantLate(t, l, 5, []int{2}, 7)
	wantLate(t, l, 1, nil, 7) // time may go back
}

func TestExample(t *testing.T) { wantNone(t, New(3)) }

// log is the chapter in another form: it keeps each who came, and who went, and
// reckons from them which wait.
type log struct {
	room int
	came []who
	gone []bool
}

// in are the places, in came, of those who wait.
func (g *log) in() (l []int) {
	for i := range g.came {
		if !g.gone[i] {
			l = append(l, i)
		}
	}
	return l
}

func (g *log) ids() (l []int) {
	for _, i := range g.in() {
		l = append(l, g.came[i].id)
	}
	return l
}

func (g *log) Push(id, until int) api.Errno {
	switch {
	case slices.Contains(g.ids(), id):
		return api.ErrTwice
	case len(g.ids()) == g.room:
		return api.ErrFull
	}
	g.came, g.gone = append(g.came, who{id, until}), append(g.gone, false)
	return api.OK
}

func (g *log) Pop() (int, bool) {
	in := g.in()
	if len(in) == 0 {
		return 0, false
	}
	g.gone[in[0]] = true
	return g.came[in[0]].id, true
}

func (g *log) Late(now int) (l []int) {
	for _, i := range g.in() {
		if g.came[i].until <= now {
			g.gone[i] = true
			l = append(l, g.came[i].id)
		}
	}
	return l
}

// both calls the line and the log, and holds what they answer against each other.
func both(t *testing.T, l *Line, g *log, x step) told {
	t.Helper()
	ahead := g.ids()
	a, want := do(l, x), do(g, x)
	if !a.same(want) {
		t.Fatalf("P801: room %d, %v, %v: %v, want %v", g.room, ahead, x, a, want)
	}
	if got := l.All(); !slices.Equal(got, g.ids()) || l.Len() != len(g.ids()) {
		t.Fatalf("P801: room %d, %v, %v: All %v, Len %d, want %v", g.room, ahead, x, got, l.Len(), g.ids())
	}
	return a
}

// Every order of a few calls, of lines with little room.
func TestP801EveryOrder(t *testing.T) {
	steps := []step{{push, 1, 1}, {push, 1, 2}, {push, 2, 1}, {push, 3, 2}, {call: pop}, {late, 0, 1}, {late, 0, 2}}
	const deep, orders = 6, 7 * 7 * 7 * 7 * 7 * 7
	for room := 0; room <= 2; room++ {
		for code := range orders {
			l, g := New(room), &log{room: room}
			for range deep {
				both(t, l, g, steps[code%len(steps)])
				code /= len(steps)
			}
		}
	}
}

// some is any step; time goes on as they go on.
func some(d *rand.Rand, now int) step {
	switch n := d.Intn(20); {
	case n < 11:
		return step{push, 1 + d.Intn(14), now + d.Intn(40)}
	case n < 15:
		return step{call: pop}
	}
	return step{call: late, at: now + d.Intn(3) - 1}
}

func TestP801ByAnotherForm(t *testing.T) {
	d := rand.New(rand.NewSource(8))
	errs, lates, none := map[api.Errno]int{}, map[int]int{}, 0
	for i := range 900 {
		room := i % 9
		l, g := New(room), &log{room: room}
		for now := range 100 {
			x := some(d, now)
			switch a := both(t, l, g, x); {
			case x.call == push:
				errs[a.e]++
			case x.call == late:
				lates[len(a.ids)]++
			case !a.is:
				none++
			}
		}
	}
	for _, e := range []api.Errno{api.OK, api.ErrTwice, api.ErrFull} {
		if errs[e] == 0 {
			t.Errorf("P801: %v was not tried", e)
		}
	}
	for n := range 4 {
		if lates[n] == 0 {
			t.Errorf("P801: %d late ones were not tried", n)
		}
	}
	if none == 0 {
		t.Error("P801: Pop of an empty line was not tried")
	}
}

// Each comes with a number above all ahead: so whatever is told in order rises.
func TestP802FirstIsFirst(t *testing.T) {
	d := rand.New(rand.NewSource(2))
	for i := range 300 {
		l, id, popped := New(1+i%8), 0, 0
		for now := range 200 {
			x := some(d, now)
			if x.call == push {
				id++
				x.id = id
			}
			a := do(l, x)
			if all := l.All(); !slices.IsSorted(all) || !slices.IsSorted(a.ids) {
				t.Fatalf("P802: %v: %v, and %v wait", x, a.ids, all)
			}
			if !a.is {
				continue
			}
			if first := a.ids[0]; first <= popped || slices.ContainsFunc(l.All(), func(id int) bool { return id < first }) {
				t.Fatalf("P802: %d behind %d, ahead of %v", first, popped, l.All())
			}
			popped = a.ids[0]
		}
	}
}

// P802: those who stay keep their order, whichever others go, and however.
func TestP802HoweverOthersGo(t *testing.T) {
	const n = 8
	for gone := range 1 << n {
		l := New(n)
		var over, left []int
		for i := range n {
			id, until := 100-i, 2 // falling, so that no order by numbers is right
			if gone>>i&1 == 1 {
				until = 1
				over = append(over, id)
			} else {
				left = append(left, id)
			}
			l.Push(id, until)
		}
		wantLate(t, l, 1, over, left...)
		for i, id := range left {
			wantPop(t, l, id, left[i+1:]...)
		}
		wantNone(t, l)
	}
}

func numbers() []int {
	return []int{math.MinInt, math.MinInt32, -8, -1, 0, 1, 2, 8, 9, 100, math.MaxInt32, 1<<32 + 1, math.MaxInt - 1, math.MaxInt}
}

// P1: nothing panics, whatever it is given, nor of a line that New did not make;
// and room that is none or very much is made for nothing ahead.
func TestP1Any(t *testing.T) {
	lines := []*Line{{}, {}}
	for _, room := range numbers() {
		lines = append(lines, New(room), New(room))
	}
	for i, l := range lines {
		for _, id := range numbers() {
			for _, until := range numbers() {
				l.Push(id, until)
				l.Push(until, id)
			}
			if i%2 == 0 {
				l.Late(id)
			}
			l.Len()
			l.All()
			l.Pop()
		}
		for range 20 {
			l.Pop()
		}
		l.Late(math.MaxInt)
	}
}

// P1, P9: the ends of what an until and now may be do not wrap round.
func TestP1FarUntil(t *testing.T) {
	l := of(t, 4, who{1, math.MaxInt}, who{2, math.MinInt}, who{3, 0}, who{4, math.MaxInt - 1})
	wantLate(t, l, math.MinInt, []int{2}, 1, 3, 4)
	wantLate(t, l, math.MaxInt-1, []int{3, 4}, 1)
	wantLate(t, l, math.MaxInt, []int{1})
}

// fill writes over all of a list, its spare room too.
func fill(l []int) {
	l = l[:cap(l)]
	for i := range l {
		l[i] = -1
	}
}

func TestP2AnswersAreNew(t *testing.T) {
	l := of(t, 8, who{7, 3}, who{2, 5}, who{9, 3}, who{1, 5})
	one, two := l.All(), l.All()
	fill(one)
	check(t, l, 7, 2, 9, 1)
	if !slices.Equal(two, []int{7, 2, 9, 1}) {
		t.Errorf("P2: %v is shared", two)
	}
	over := l.Late(3)
	fill(over)
	check(t, l, 2, 1)
	wantPush(t, l, 4, 6, api.OK, 2, 1, 4)
	wantLate(t, l, 5, []int{2, 1}, 4)
	wantPop(t, l, 4)
}

func TestP2AnswersStay(t *testing.T) {
	l := of(t, 4, who{7, 3}, who{2, 5}, who{9, 3})
	all, over := l.All(), l.Late(3)
	for id := range 20 {
		l.Push(30+id, id)
		l.Pop()
		l.Push(60+id, id)
		l.Late(id)
	}
	if !slices.Equal(all, []int{7, 2, 9}) || !slices.Equal(over, []int{7, 9}) {
		t.Errorf("P2: %v, %v", all, over)
	}
}

func TestP3TheSameAgain(t *testing.T) {
	for range 100 {
		l := of(t, 8, who{41, 3}, who{7, 9}, who{100, 3}, who{3, 1}, who{65, 4}, who{8, 3})
		wantLate(t, l, 3, []int{41, 100, 3, 8}, 7, 65)
		wantPop(t, l, 7, 65)
	}
}

// P3: to ask changes nothing.
func TestP3AllAndLenOnlyAsk(t *testing.T) {
	l := of(t, 3, who{7, 3}, who{2, 5}, who{9, 3})
	for range 5 {
		check(t, l, 7, 2, 9)
	}
	wantPop(t, l, 7, 2, 9)
}

// P4: beside a false there is no number, also when a line has had some.
func TestP4NothingBesideAFalse(t *testing.T) {
	l := of(t, 3, who{7, 3}, who{2, 5}, who{9, 3})
	wantPop(t, l, 7, 2, 9)
	wantLate(t, l, 5, []int{2, 9})
	wantNone(t, l)
}

// P5: a line that has refused much tells what one tells that was not asked.
func TestP5RefusedChangesNothing(t *testing.T) {
	d := rand.New(rand.NewSource(5))
	for i := range 300 {
		room := i % 9
		l, plain := New(room), New(room)
		for now := range 60 {
			x := some(d, now)
			a := do(l, x)
			if a.e != api.OK {
				continue
			}
			if b := do(plain, x); !a.same(b) {
				t.Fatalf("P5: %v: %v, and of the other one %v", x, a, b)
			}
		}
		check(t, plain, l.All()...)
		if one, two := l.Late(70), plain.Late(70); !slices.Equal(one, two) {
			t.Fatalf("P5: %v, and of the other one %v", one, two)
		}
	}
}

func TestP7LinesSideBySide(t *testing.T) {
	one, two := New(2), New(2)
	if one == two {
		t.Fatal("P7: one line is answered twice")
	}
	wantPush(t, one, 7, 5, api.OK, 7)
	check(t, two)
	wantPush(t, two, 7, 3, api.OK, 7) // of one line alone is it twice
	wantPush(t, two, 2, 5, api.OK, 7, 2)
	wantPush(t, two, 9, 5, api.ErrFull, 7, 2)
	wantPush(t, one, 9, 5, api.OK, 7, 9)
	wantLate(t, two, 3, []int{7}, 2)
	check(t, one, 7, 9)
	wantPop(t, one, 7, 9)
	check(t, two, 2)
}
