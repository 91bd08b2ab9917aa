package gauge

import (
	"math"
	"math/rand"
	"slices"
	"testing"
)

// of is a gauge with these samples.
func of(samples ...int) *Gauge {
	g := New()
	for _, v := range samples {
		g.Add(v)
	}
	return g
}

// times is v, n times.
func times(n, v int) []int { return slices.Repeat([]int{v}, n) }

// rising are the numbers from 1 to n.
func rising(n int) (l []int) {
	for v := range n {
		l = append(l, v+1)
	}
	return l
}

func wantLast(t *testing.T, g *Gauge, n, sum, count int) {
	t.Helper()
	if s, c := g.Last(n); s != sum || c != count {
		t.Fatalf("P901: Last(%d) = %d, %d, want %d, %d", n, s, c, sum, count)
	}
}

func wantIdle(t *testing.T, g *Gauge, idle int) {
	t.Helper()
	if got := g.Idle(); got != idle {
		t.Fatalf("P901: Idle = %d, want %d", got, idle)
	}
}

// each asks for every number of samples from -2 to 70, and holds that against a list.
func each(t *testing.T, g *Gauge, samples []int) {
	t.Helper()
	for n := -2; n <= 70; n++ {
		sum, count := tail(samples, n)
		wantLast(t, g, n, sum, count)
	}
}

// tail is the chapter in another form: it reckons from all samples that ever came.
func tail(samples []int, n int) (sum, count int) {
	count = max(0, min(n, len(samples), 60))
	for _, v := range samples[len(samples)-count:] {
		sum += max(v, 0)
	}
	return sum, count
}

// noughts is Idle in that form.
func noughts(samples []int) int {
	for i := range samples {
		if samples[len(samples)-1-i] > 0 {
			return i
		}
	}
	return len(samples)
}

func TestP901New(t *testing.T) {
	g := New()
	each(t, g, nil)
	wantLast(t, g, 60, 0, 0)
	wantIdle(t, g, 0)
}

func TestP901LastAreTheNewest(t *testing.T) {
	g := of(1, 20, 300, 4000)
	wantLast(t, g, 0, 0, 0)
	wantLast(t, g, 1, 4000, 1)
	wantLast(t, g, 2, 4300, 2)
	wantLast(t, g, 3, 4320, 3)
	wantLast(t, g, 4, 4321, 4)
	wantLast(t, g, 5, 4321, 4) // as many as there are
	wantLast(t, g, 60, 4321, 4)
	g.Add(50000)
	wantLast(t, g, 2, 54000, 2)
}

func TestP901LastCountsNoughts(t *testing.T) {
	g := of(0, 5, 0, 0)
	wantLast(t, g, 1, 0, 1)
	wantLast(t, g, 3, 5, 3)
	wantLast(t, g, 6, 5, 4)
}

func TestP901LastOfNone(t *testing.T) {
	for _, n := range []int{0, -1, -2, -60, -61, math.MinInt32, math.MinInt} {
		wantLast(t, of(rising(3)...), n, 0, 0)
		wantLast(t, of(rising(200)...), n, 0, 0)
	}
}

func TestP901LastOfSixtyAtMost(t *testing.T) {
	for _, n := range []int{60, 61, 62, 119, 120, 1000, math.MaxInt32, math.MaxInt} {
		wantLast(t, of(rising(59)...), n, 59*60/2, 59)
		wantLast(t, of(rising(60)...), n, 60*61/2, 60)
		wantLast(t, of(rising(61)...), n, 60*61/2+60, 60)
		wantLast(t, of(rising(1000)...), n, 1000*1001/2-940*941/2, 60)
	}
	wantLast(t, of(rising(61)...), 59, 60*61/2+60-2, 59)
}

// Each number of samples, from none to far more than are asked for.
func TestP901LastAsTheyCome(t *testing.T) {
	g := New()
	var samples []int
	for v := range 200 {
		each(t, g, samples)
		g.Add(v * v)
		samples = append(samples, v*v)
	}
}

func TestP901Bounds(t *testing.T) {
	wantLast(t, of(1000000), 1, 1000000, 1)
	wantLast(t, of(999999, 1000000), 2, 1999999, 2)
	wantLast(t, of(times(60, 1000000)...), 60, 60000000, 60)
	wantIdle(t, of(0, 1000000), 0)
	wantIdle(t, of(0, 1), 0)
	wantIdle(t, of(1, 0), 1)
}

func TestP901BelowNought(t *testing.T) {
	for _, v := range []int{-1, -2, -1000000, math.MinInt32, math.MinInt} {
		g := of(5, v, 7)
		wantLast(t, g, 1, 7, 1)
		wantLast(t, g, 2, 7, 2) // a sample of 0, neither none nor less
		wantLast(t, g, 3, 12, 3)
		wantIdle(t, g, 0)
		g = of(5, 0, v, v)
		wantIdle(t, g, 3)
		wantLast(t, g, 4, 5, 4)
	}
}

func TestP901Idle(t *testing.T) {
	g := New()
	for i, v := range []int{0, 0, 3, 0, 0, 0, -4, 1, 1, 0} {
		g.Add(v)
		wantIdle(t, g, []int{1, 2, 0, 1, 2, 3, 4, 0, 0, 1}[i])
	}
}

// Idle is not bound by the samples that Last tells.
func TestP901IdleBeyondSixty(t *testing.T) {
	g := of(5)
	for n := range 1000 {
		wantIdle(t, g, n)
		g.Add(0)
	}
	wantLast(t, g, 60, 0, 60)
	g.Add(1)
	wantIdle(t, g, 0)
	wantLast(t, g, 60, 1, 60)
	g.Add(0)
	wantIdle(t, g, 1)
	wantIdle(t, of(times(61, 0)...), 61) // of a new one, too, where no other sample is ahead
}

func TestExample(t *testing.T) {
	wantLast(t, New(), 6, 0, 0)
}

// some is any sample: often 0, at times below.
func some(d *rand.Rand) int {
	switch n := d.Intn(10); {
	case n < 4:
		return 0
	case n < 5:
		return -d.Intn(1000)
	case n < 6:
		return 1000000 - d.Intn(3)
	}
	return d.Intn(40)
}

func TestP901ByAnotherForm(t *testing.T) {
	d := rand.New(rand.NewSource(9))
	far := 0
	for range 100 {
		g := New()
		var samples []int
		for range 300 {
			l := []int{some(d)}
			if d.Intn(100) == 0 {
				l = times(d.Intn(90), 0)
			}
			for _, v := range l {
				g.Add(v)
			}
			samples = append(samples, l...)
			wantIdle(t, g, noughts(samples))
			far = max(far, g.Idle())
			n := d.Intn(80) - 5
			sum, count := tail(samples, n)
			wantLast(t, g, n, sum, count)
		}
		each(t, g, samples)
	}
	if far <= 60 {
		t.Errorf("P901: Idle above 60 was not tried, but %d at most", far)
	}
}

func numbers() []int {
	return []int{math.MinInt, math.MinInt32, -1000001, -1, 0, 1, 59, 60, 61, 1000000, 1000001, math.MaxInt32, 1<<32 + 1, math.MaxInt - 1, math.MaxInt}
}

// P1, P8: nothing panics, whatever it is given, also what may not be.
func TestP1Any(t *testing.T) {
	for _, v := range numbers() {
		for _, w := range numbers() {
			g := of(v, w)
			for range 70 {
				g.Add(w)
				g.Add(v)
			}
			for _, n := range numbers() {
				g.Last(n)
			}
			g.Idle()
		}
	}
}

// P3: to ask changes nothing.
func TestP3LastAndIdleOnlyAsk(t *testing.T) {
	for _, asked := range numbers() {
		samples := append(rising(70), 0, 0)
		g := of(samples...)
		for range 3 {
			g.Last(asked)
			wantIdle(t, g, 2)
			each(t, g, samples)
		}
		g.Add(9)
		each(t, g, append(samples, 9))
	}
}

func TestP3TheSameAgain(t *testing.T) {
	for range 100 {
		g := of(append(rising(80), 0, 7, -1, 0)...)
		wantLast(t, g, 5, 87, 5)
		wantIdle(t, g, 2)
	}
}

func TestP7GaugesSideBySide(t *testing.T) {
	one, two := New(), New()
	if one == two {
		t.Fatal("P7: one gauge is answered twice")
	}
	one.Add(7)
	each(t, two, nil)
	two.Add(0)
	each(t, one, []int{7})
	wantIdle(t, one, 0)
	wantIdle(t, two, 1)
	for range 70 {
		one.Add(3)
	}
	each(t, two, []int{0})
	wantIdle(t, two, 1)
}
