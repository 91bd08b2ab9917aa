package scale

import (
	"math"
	"math/rand"
	"sort"
	"testing"

	"damper/api"
	"damper/gauge"
	"damper/spec"
)

const most = 10000000 // what a sum, a count may be at most

func wantNeed(t *testing.T, sum, count, conc, want int) {
	t.Helper()
	if got := Need(sum, count, conc); got != want {
		t.Fatalf("P1001: Need(%d, %d, %d) = %d, want %d", sum, count, conc, got, want)
	}
}

// otherNeed is the promise in another form: the least number of pods that have
// room enough.
func otherNeed(sum, count, conc int) int {
	if count == 0 {
		return 0
	}
	return sort.Search(most, func(pods int) bool { return pods*count*conc >= sum })
}

func TestExample(t *testing.T) { wantNeed(t, 9, 2, 2, 3) }

func TestP1001Need(t *testing.T) {
	for _, x := range [][4]int{
		{1, 1, 1, 1}, {2, 1, 1, 2}, {7, 1, 1, 7}, {7, 1, 7, 1}, {7, 7, 1, 1}, {8, 1, 7, 2}, {8, 7, 1, 2},
		{11, 2, 3, 2}, {12, 2, 3, 2}, {13, 2, 3, 3}, {18, 2, 3, 3}, {19, 2, 3, 4}, // up, but not where it is even
		{1, 2, 1, 1}, {1, 60, 8, 1}, {480, 60, 8, 1}, {481, 60, 8, 2}, {959, 60, 8, 2}, {960, 60, 8, 2}, {961, 60, 8, 3},
		{5, 2, 2, 2}, {3, 2, 1, 2}, // by both at once, not each one's part rounded down
		{most, 1, 1, most}, {most, 1, 8, 1250000}, {most - 1, 1, 8, 1250000}, {most, 1, 3, 3333334},
		{most, most, 1, 1}, {most, most, 8, 1}, {1, most, 8, 1}, {most, most - 1, 1, 2}, {most - 1, most, 1, 1}, {most, most / 8, 8, 1}, {most, most/8 - 1, 8, 2},
	} {
		wantNeed(t, x[0], x[1], x[2], x[3])
	}
}

func TestP1001NoughtIsNone(t *testing.T) {
	for conc := 1; conc <= api.MaxConc; conc++ {
		for _, n := range []int{0, 1, 2, 6, 7, 60, most - 1, most} {
			wantNeed(t, n, 0, conc, 0) // of no samples, whatever their sum
			wantNeed(t, 0, n, conc, 0)
		}
	}
}

func TestP1001ByAnotherForm(t *testing.T) {
	for conc := 1; conc <= api.MaxConc; conc++ {
		for count := range 15 {
			for sum := range 150 {
				wantNeed(t, sum, count, conc, otherNeed(sum, count, conc))
			}
		}
	}
	d := rand.New(rand.NewSource(10))
	for range 20000 {
		sum, count, conc := d.Intn(most+1), d.Intn(d.Intn(most)+1), 1+d.Intn(api.MaxConc)
		wantNeed(t, sum, count, conc, otherNeed(sum, count, conc))
	}
}

// asked is what Decide is given; what is not named is 0.
type asked struct {
	s                                                 State
	c                                                 api.Config
	ready, busy, stable, stables, short, shorts, idle int
}

func (x asked) decide() State {
	return Decide(x.s, x.c, x.ready, x.busy, x.stable, x.stables, x.short, x.shorts, x.idle)
}

func want(t *testing.T, x asked, pods, left int) {
	t.Helper()
	if got, w := x.decide(), (State{Want: pods, Left: left}); got != w {
		t.Fatalf("P1002: Decide of %+v = %+v, want %+v", x, got, w)
	}
}

// wide is a configuration that bounds little: one request a pod, up to ten pods.
func wide() api.Config { return api.Config{Name: "web", Conc: 1, Max: 10} }

// with is wide, with other bounds.
func with(least, most, grace int) api.Config {
	c := wide()
	c.Min, c.Max, c.Grace = least, most, grace
	return c
}

// of asks for a pods by the stable samples, for b by the short ones, of wide, where so many are ready.
func of(ready, a, b int) asked {
	return asked{c: wide(), ready: ready, stable: 6 * a, stables: 6, short: 2 * b, shorts: 2}
}

func TestP1002LeftIsSixFromTwiceOn(t *testing.T) {
	for _, x := range [][3]int{ // ready, b, Left
		{0, 0, 0}, {0, 1, 0}, {0, 2, 6}, {0, 3, 6}, // of none as of one
		{1, 1, 0}, {1, 2, 6}, {2, 3, 0}, {2, 4, 6}, {3, 5, 0}, {3, 6, 6}, {3, 7, 6},
		{5, 9, 0}, {5, 10, 6}, {30, 59, 0}, {30, 60, 6}, {30, most / 2, 6},
	} {
		a := of(x[0], 0, x[1])
		if got := a.decide().Left; got != x[2] {
			t.Errorf("P1002: of %d ready, and %d needed: Left %d, want %d", x[0], x[1], got, x[2])
		}
	}
}

func TestP1002LeftIsByTheShortSamplesAlone(t *testing.T) {
	want(t, of(1, 9, 1), 4, 0)
	want(t, of(1, 0, 9), 4, 6)
	x := of(1, 9, 0)
	x.busy, x.idle, x.s.Want = 99, 99, 9
	want(t, x, 4, 0)
	x = of(1, 0, 3)
	x.shorts = 0 // of no samples none is needed
	want(t, x, 0, 0)
	x = of(2, 0, 0)
	x.c.Conc, x.short, x.shorts = 4, 24, 2 // three pods, as there is room for four in each
	want(t, x, 1, 0)
	x.short = 25
	want(t, x, 4, 6)
}

func TestP1002LeftFalls(t *testing.T) {
	for left := range api.Stable + 1 {
		x := of(1, 1, 1)
		x.s.Left = left
		want(t, x, 1, []int{0, 0, 1, 2, 3, 4, 5}[left])
		x = of(1, 1, 2)
		x.s.Left = left
		want(t, x, 2, 6) // it begins anew, however much was left
	}
}

func TestP1002WantOfTheStable(t *testing.T) {
	for a := range 11 {
		x := of(5, a, 0)
		x.s.Want = 10 // it may fall, as there is no panic
		want(t, x, max(a, 2), 0)
		x = of(10, a, 9) // the short ones count in panic alone
		want(t, x, max(a, 5), 0)
	}
	x := of(3, 0, 0)
	x.c.Conc = 3
	x.stable, x.stables = 55, 6
	want(t, x, 4, 0)
	x.stable = 54
	want(t, x, 3, 0)
	x.stables = 0
	want(t, x, 1, 0)
}

func TestP1002WantInPanicIsTheGreatest(t *testing.T) {
	for _, x := range [][4]int{ // a, b, was, Want
		{3, 4, 5, 5}, {3, 5, 4, 5}, {4, 3, 5, 5}, {4, 5, 3, 5}, {5, 3, 4, 5}, {5, 4, 3, 5},
		{0, 0, 7, 7}, {0, 7, 0, 7}, {7, 0, 0, 7}, {6, 6, 6, 6}, {2, 1, 0, 2},
	} {
		a := of(4, x[0], x[1])
		a.s = State{Want: x[2], Left: 6}
		want(t, a, x[3], 5)
		a.s.Left = 2
		want(t, a, x[3], 1)
		a.s.Left = 1 // the panic is behind it: the stable ones alone
		want(t, a, max(x[0], 2), 0)
		a.s.Left = 0
		want(t, a, max(x[0], 2), 0)
	}
}

// A panic counts from the turn on in which it begins.
func TestP1002WantWhereAPanicBegins(t *testing.T) {
	x := of(2, 1, 4)
	want(t, x, 4, 6)
	x.s.Want = 7
	want(t, x, 7, 6)
	x = of(2, 1, 3)
	x.s.Want = 7
	want(t, x, 1, 0)
}

func TestP1002KeptWhileBusy(t *testing.T) {
	for _, busy := range []int{0, 1, 2, 9, most} {
		x := asked{c: wide(), busy: busy, idle: most}
		want(t, x, min(busy, 1), 0)
		x.s.Want = 1
		want(t, x, min(busy, 1), 0) // Grace is 0
		x.s.Left = 1
		want(t, x, min(busy, 1), 0)
		x.c.Max = 1
		want(t, x, min(busy, 1), 0)
		for a := 1; a <= 4; a++ {
			x = of(1, a, 0)
			x.busy = busy
			want(t, x, a, 0) // how many are busy is not how many are needed
		}
	}
}

func TestP1002KeptAsLongAsGrace(t *testing.T) {
	for _, x := range [][4]int{ // Grace, idle, was, Want
		{5, 0, 1, 1}, {5, 4, 1, 1}, {5, 5, 1, 0}, {5, 6, 1, 0}, {5, most, 1, 0},
		{1, 0, 1, 1}, {1, 1, 1, 0}, {0, 0, 1, 0}, {0, 1, 1, 0}, {30, 29, 1, 1}, {30, 30, 1, 0},
		{5, 4, 10, 1}, {5, 4, 2, 1}, {5, 5, 10, 0}, // one, however many were asked for
		{5, 4, 0, 0}, {5, 0, 0, 0}, {30, 29, 0, 0}, // what was none stays none
	} {
		for _, stables := range []int{0, 6} {
			for ready := range 2 {
				a := asked{s: State{Want: x[2]}, c: with(0, 10, x[0]), ready: ready, stables: stables, shorts: stables, idle: x[1]}
				want(t, a, x[3], 0)
			}
		}
	}
}

func TestP1002KeptOnlyWhereItIsNone(t *testing.T) {
	x := asked{s: State{Want: 3, Left: 4}, c: with(0, 10, 30), ready: 1, busy: 1}
	want(t, x, 3, 3) // in panic it is what it was
	x.s = State{Left: 4}
	want(t, x, 1, 3)
	x.busy = 0
	want(t, x, 0, 3) // in panic, too, none where it was none
	x = of(1, 2, 0)
	x.s.Want, x.c.Grace, x.busy = 5, 30, 7
	want(t, x, 2, 0)
}

func TestP1002NoMoreThanFourTimes(t *testing.T) {
	for ready, up := range []int{4, 4, 8, 10, 10} {
		for _, n := range []int{10, 11, 999, most / 6} {
			want(t, of(ready, n, 0), up, 0)
			want(t, of(ready, n, most/2), up, 6)
			want(t, of(ready, 0, n), up, 6)
		}
	}
	want(t, of(0, 3, 0), 3, 0)
	want(t, of(1, 5, 0), 4, 0)
	want(t, of(2, 7, 0), 7, 0)
	want(t, of(2, 9, 0), 8, 0)
	want(t, asked{s: State{Want: 9, Left: 5}, c: wide(), ready: 1}, 4, 4) // what it was, too
}

func TestP1002NoLessThanHalf(t *testing.T) {
	for ready := range 31 {
		x := asked{c: wide(), ready: ready}
		want(t, x, []int{0, 0, 1, 1, 2, 2, 3, 3, 4, 4, 5, 5, 6, 6, 7, 7, 8, 8, 9, 9, 10, 10, 10, 10, 10, 10, 10, 10, 10, 10, 10}[ready], 0)
		x.s.Want, x.idle = 10, most
		want(t, x, min(ready/2, 10), 0)
	}
	want(t, of(9, 3, 0), 4, 0)
	want(t, of(9, 4, 0), 4, 0)
	want(t, of(9, 5, 0), 5, 0)
}

func TestP1002MinAndMax(t *testing.T) {
	want(t, asked{c: with(1, 10, 0), idle: most}, 1, 0)
	want(t, asked{c: with(3, 3, 0), idle: most}, 3, 0)
	want(t, asked{c: with(10, 10, 0)}, 10, 0)          // Min is above Up
	want(t, asked{c: with(6, 10, 0), ready: 1}, 6, 0)  // so is this one
	want(t, asked{c: with(6, 10, 0), ready: 10}, 6, 0) // and above Down
	want(t, asked{c: with(2, 10, 0), ready: 10}, 5, 0)
	want(t, asked{c: with(0, 4, 0), ready: 10}, 4, 0) // Max is above Down
	want(t, asked{c: with(0, 1, 0), ready: 30}, 1, 0)
	x := of(5, 9, 99)
	x.c = with(0, 2, 0)
	want(t, x, 2, 6) // it bounds how many, not the panic
	x.c = with(2, 9, 0)
	want(t, x, 9, 6)
	x = asked{s: State{Want: 9, Left: 3}, c: with(0, 4, 0), ready: 9}
	want(t, x, 4, 2)
}

// other is the promise in another form: pods are added one by one, as long as
// something asks for one more.
func other(x asked) State {
	a, b := otherNeed(x.stable, x.stables, x.c.Conc), otherNeed(x.short, x.shorts, x.c.Conc)
	from := x.ready
	if from == 0 {
		from = 1
	}
	s := State{Left: 6}
	if b < from+from {
		s.Left = []int{0, 0, 1, 2, 3, 4, 5}[x.s.Left]
	}
	asks := func(n int) bool {
		if s.Left > 0 && (n < b || n < x.s.Want) {
			return true
		}
		return n < a || n == 0 && (x.busy != 0 || x.s.Want != 0 && x.c.Grace > x.idle)
	}
	for s.Want < x.c.Max && (s.Want < x.c.Min || 2*(s.Want+1) <= x.ready || s.Want < 4*from && asks(s.Want)) {
		s.Want++
	}
	return s
}

// some is any that may be asked, most of it near to where it turns.
func some(d *rand.Rand) asked {
	few := func(n int) int { return d.Intn(d.Intn(n) + 1) }
	c := api.Config{Name: "a", Image: d.Intn(256), Conc: 1 + few(api.MaxConc), Max: 1 + d.Intn(api.MaxScale), Grace: few(api.MaxGrace + 1)}
	c.Min = few(c.Max + 1)
	x := asked{s: State{few(11), few(7)}, c: c, ready: few(31), busy: few(4), stables: few(7), shorts: few(3), idle: few(35)}
	x.stable = d.Intn(1 + x.stables*c.Conc*few(15))
	x.short = d.Intn(1 + x.shorts*c.Conc*(1+few(2*x.ready+5)))
	if d.Intn(20) == 0 {
		x.stable, x.short, x.busy, x.idle = d.Intn(most+1), d.Intn(most+1), d.Intn(most+1), d.Intn(most+1)
	}
	return x
}

func TestP1002ByAnotherForm(t *testing.T) {
	d := rand.New(rand.NewSource(11))
	seen := map[State]int{}
	for range 300000 {
		x := some(d)
		if e := spec.Config(x.c); e != api.OK {
			t.Fatalf("%+v: %v", x.c, e)
		}
		w := other(x)
		want(t, x, w.Want, w.Left)
		seen[w]++
	}
	for pods := range api.MaxScale + 1 {
		for left := range api.Stable + 1 {
			if impossible := pods == 0 && left == api.Stable; impossible == (seen[State{pods, left}] != 0) {
				t.Errorf("P1002: Want %d, Left %d: told %d times", pods, left, seen[State{pods, left}])
			}
		}
	}
}

// every goes through all of a few numbers each.
func every(tell func(x asked)) {
	for code := range 3 * 3 * 3 * 4 * 2 * 2 * 3 * 3 * 3 {
		next := func(of ...int) int {
			n := of[code%len(of)]
			code /= len(of)
			return n
		}
		x := asked{c: wide(), stables: 6, shorts: 2}
		x.s.Want, x.s.Left = next(0, 1, 5), next(0, 1, 6)
		x.c.Min, x.c.Grace = next(0, 1, 4), next(0, 1, 3, 30)
		x.busy, x.stable = next(0, 1), next(0, 7)
		x.short, x.ready, x.idle = next(0, 1, 9), next(0, 1, 2), next(0, 1, 3)
		tell(x)
	}
}

func TestP1002ByAnotherFormOfEvery(t *testing.T) {
	every(func(x asked) {
		w := other(x)
		want(t, x, w.Want, w.Left)
	})
}

func TestP1003NoneOnlyWhereNothingWas(t *testing.T) {
	none := 0
	check := func(x asked) {
		if x.decide().Want != 0 {
			return
		}
		none++
		if x.c.Min != 0 || x.busy != 0 || x.s.Want != 0 && x.idle < x.c.Grace {
			t.Fatalf("P1003: %+v: none", x)
		}
	}
	every(check)
	d := rand.New(rand.NewSource(12))
	for range 100000 {
		check(some(d))
	}
	if none < 1000 {
		t.Errorf("P1003: none is asked for %d times alone", none)
	}
}

// scaler is a scaler over time: its samples come by a gauge, as many pods are
// ready as it asked for last.
type scaler struct {
	s State
	c api.Config
	g *gauge.Gauge
}

// turn takes a sample, and tells what is decided by it.
func (r *scaler) turn(busy int) State {
	r.g.Add(busy)
	stable, stables := r.g.Last(api.Stable)
	short, shorts := r.g.Last(api.Panic)
	r.s = Decide(r.s, r.c, r.s.Want, busy, stable, stables, short, shorts, r.g.Idle())
	return r.s
}

func TestP1002OverTime(t *testing.T) {
	r := &scaler{c: with(0, 10, 9), g: gauge.New()}
	for i, x := range []struct {
		busy int
		want State
	}{
		{0, State{0, 0}},
		{1, State{1, 0}},
		{1, State{1, 0}},
		{9, State{4, 6}}, // ten in two samples need five, but four times one is four
		{9, State{9, 6}},
		{9, State{9, 5}},
		{0, State{9, 4}}, // nothing falls in panic
		{0, State{9, 3}},
		{0, State{9, 2}},
		{0, State{9, 1}}, // eighteen in six samples
		{0, State{4, 0}}, // nine in six need two, but half of nine is four
		{0, State{2, 0}},
		{0, State{1, 0}},
		{0, State{1, 0}}, // eight samples are 0, but Grace is nine
		{0, State{0, 0}},
		{0, State{0, 0}},
		{2, State{1, 0}}, // two in two samples need one, which is not twice one
		{2, State{2, 6}},
	} {
		if got := r.turn(x.busy); got != x.want {
			t.Fatalf("P1002: turn %d: %+v, want %+v", i, got, x.want)
		}
	}
}

func numbers() []int {
	return []int{
		math.MinInt, math.MinInt + 1, math.MinInt32, -most, -8, -2, -1, 0, 1, 2, 6, 7, 8, 9, 31, most, most + 1,
		math.MaxInt32, 1 << 32, 1 << 61, 1 << 62, math.MaxInt/2 + 1, math.MaxInt - 1, math.MaxInt,
	}
}

// P1, P8: nothing panics, whatever it is given, also what may not be: no room, or
// so much that what it is divided by wraps round to 0.
func TestP1AnyNeed(t *testing.T) {
	for _, sum := range numbers() {
		for _, count := range numbers() {
			for _, conc := range numbers() {
				Need(sum, count, conc)
			}
		}
	}
}

func TestP1AnyDecide(t *testing.T) {
	d := rand.New(rand.NewSource(13))
	l := numbers()
	number := func() int { return l[d.Intn(len(l))] }
	for range 100000 {
		c := api.Config{Image: number(), Conc: number(), Min: number(), Max: number(), Grace: number()}
		Decide(State{number(), number()}, c, number(), number(), number(), number(), number(), number(), number())
	}
	Decide(State{}, api.Config{}, 0, 0, 0, 0, 0, 0, 0)
}

// P3: what it answers hangs on what it is given alone; the Name and the Image are of no weight.
func TestP3TheSameAgain(t *testing.T) {
	d := rand.New(rand.NewSource(14))
	for range 1000 {
		x, y := some(d), some(d)
		one := x.decide()
		y.decide()
		x.c.Name, x.c.Image = "another-one", 255-x.c.Image
		if two := x.decide(); two != one {
			t.Fatalf("P3: %+v: %+v, and then %+v", x, one, two)
		}
	}
}
