package roll

import (
	"fmt"
	"maps"
	"math"
	"math/rand"
	"reflect"
	"slices"
	"strconv"
	"strings"
	"testing"
	"unsafe"

	"damper/api"
)

// million is how far gone and whole may be from 0.
const million = 1000000

func share(rev string, weight int) api.Share { return api.Share{Rev: rev, Weight: weight} }

// parts are shares as a text tells them: `a-1:30 b-1:70`.
func parts(text string) (l []api.Share) {
	for _, word := range strings.Fields(text) {
		rev, weight, _ := strings.Cut(word, ":")
		n, err := strconv.Atoi(weight)
		if err != nil {
			panic(err)
		}
		l = append(l, share(rev, n))
	}
	return l
}

// told are shares as such a text.
func told(l []api.Share) string {
	var words []string
	for _, s := range l {
		words = append(words, s.Rev+":"+strconv.Itoa(s.Weight))
	}
	return strings.Join(words, " ")
}

// sound tells whether shares are, but for their names' form: those that were handed in have it.
func sound(l []api.Share) bool {
	all, ahead := 0, ""
	for _, s := range l {
		if s.Rev <= ahead || s.Weight < 1 || s.Weight > 100 {
			return false
		}
		all, ahead = all+s.Weight, s.Rev
	}
	return all == 100
}

// brief is a list as a failing test tells it, however long it is.
func brief(l []api.Share) string { return fmt.Sprintf("%.200q", fmt.Sprint(l)) }

// hundred are a hundred shares of one each, from such a number on.
func hundred(from int) (l []api.Share) {
	for i := range 100 {
		l = append(l, share("a-"+strconv.Itoa(from+i), 1))
	}
	return l
}

func checkShares(t *testing.T, from, to []api.Share, gone, whole int, want string) {
	t.Helper()
	if got := told(Shares(from, to, gone, whole)); got != want {
		t.Errorf("P602: Shares(%s, %s, %d, %d) = %s, want %s", told(from), told(to), gone, whole, got, want)
	}
}

func checkWeight(t *testing.T, l []api.Share, rev string, want int) {
	t.Helper()
	if got := Weight(l, rev); got != want {
		t.Errorf("P601: Weight(%s, %.40q) = %d, want %d", brief(l), rev, got, want)
	}
}

func TestP601Weight(t *testing.T) {
	l := parts("a-1:30 a-10:5 b-1:64 web-2:1")
	checkWeight(t, l, "a-1", 30)
	checkWeight(t, l, "a-10", 5)
	checkWeight(t, l, "b-1", 64)
	checkWeight(t, l, "web-2", 1)
	for _, rev := range []string{"", "a", "a-", "a-1 ", " a-1", "A-1", "a-2", "a-100", "b", "web-1", "web-22", "web-2\x00", "30", "a-1:30"} {
		checkWeight(t, l, rev, 0)
		checkWeight(t, nil, rev, 0)
		checkWeight(t, []api.Share{}, rev, 0)
	}
}

// Any list: not by names, names that are none, some twice, any weights.
func TestP601WeightOfAnyList(t *testing.T) {
	l := []api.Share{
		share("b", 1), share("a", -7), share("b", 2), share("", 9), share("", 8), share("nought", 0), share("nought", 5),
		share("most", math.MaxInt), share("least", math.MinInt), share("\xff", 3), share("\ufffd", 4), share("b", math.MaxInt),
	}
	for rev, want := range map[string]int{
		"b": 1, "a": -7, "": 9, "nought": 0, "most": math.MaxInt, "least": math.MinInt, "\xff": 3, "\ufffd": 4, "c": 0, "\xfe": 0,
	} {
		checkWeight(t, l, rev, want)
	}
	checkWeight(t, l[:2], "b", 1)
	checkWeight(t, l[1:], "b", 2)
	checkWeight(t, l[:1], "a", 0) // what is in the spare room is not in the list
}

func TestP602ByHand(t *testing.T) {
	for _, x := range []struct {
		from, to    string
		gone, whole int
		want        string
	}{
		{"a-1:100", "a-2:100", 1, 2, "a-1:50 a-2:50"}, // the chapter's example
		{"a-2:100", "a-1:100", 1, 2, "a-1:50 a-2:50"},
		{"a-1:100", "a-2:100", 1, 100, "a-1:99 a-2:1"},
		{"a-1:100", "a-2:100", 99, 100, "a-1:1 a-2:99"},
		{"a-1:100", "a-2:100", 1, 101, "a-1:100"}, // down: not 0.99
		{"a-1:100", "a-2:100", 2, 101, "a-1:99 a-2:1"},
		{"a-1:100", "a-2:100", 100, 101, "a-1:1 a-2:99"},
		{"a-1:100", "a-2:100", 2, 3, "a-1:34 a-2:66"},
		{"a-1:100", "a-2:33 a-3:33 a-4:34", 1, 2, "a-1:51 a-2:16 a-3:16 a-4:17"}, // each down, not all together
		{"a-1:100", "a-2:1 a-3:1 a-4:98", 1, 2, "a-1:51 a-4:49"},
		{"a-1:50 a-2:50", "a-1:51 a-2:49", 99, 100, "a-1:50 a-2:50"},
		{"a-1:40 b-1:30 c-1:30", "d-1:100", 1, 4, "a-1:15 b-1:30 c-1:30 d-1:25"}, // the first one, by names
		{"a-1:40 b-1:30 c-1:30", "d-1:100", 2, 5, "b-1:30 c-1:30 d-1:40"},        // all of it
		{"a-1:40 b-1:30 c-1:30", "d-1:100", 41, 100, "b-1:29 c-1:30 d-1:41"},     // and a part of the next one
		{"a-1:40 b-1:30 c-1:30", "d-1:100", 7, 10, "c-1:30 d-1:70"},
		{"a-1:40 b-1:30 c-1:30", "d-1:100", 3, 4, "c-1:25 d-1:75"},
		{"a-10:50 a-9:50", "b-1:100", 1, 4, "a-10:25 a-9:50 b-1:25"}, // by bytes, not by numbers
		{"a-1:40 b-1:30 c-1:30", "a-1:30 b-1:10 c-1:10 d-1:50", 1, 5, "a-1:30 b-1:30 c-1:30 d-1:10"},
		{"a-1:40 b-1:30 c-1:30", "a-1:30 b-1:10 c-1:10 d-1:50", 1, 2, "a-1:30 b-1:15 c-1:30 d-1:25"},
		{"a-1:40 b-1:30 c-1:30", "a-1:30 b-1:10 c-1:10 d-1:50", 7, 10, "a-1:30 b-1:10 c-1:25 d-1:35"},
		{"a-1:40 b-1:20 c-1:40", "a-1:60 b-1:20 c-1:20", 1, 3, "a-1:46 b-1:20 c-1:34"}, // one stays
		{"a-1:20 b-1:20 c-1:60", "a-1:40 b-1:10 c-1:30 d-1:20", 1, 2, "a-1:30 b-1:10 c-1:50 d-1:10"},
		{"b-1:50 d-1:50", "a-1:20 c-1:20 d-1:40 e-1:20", 1, 2, "a-1:10 b-1:20 c-1:10 d-1:50 e-1:10"},
		{"a-1:100", "a-1:100", 1, 2, "a-1:100"},
		{"a-1:1 b-1:99", "a-1:1 b-1:99", 59, 60, "a-1:1 b-1:99"},
	} {
		checkShares(t, parts(x.from), parts(x.to), x.gone, x.whole, x.want)
	}
}

func TestP602Ends(t *testing.T) {
	const one, other = "a-1:60 b-1:40", "b-1:30 c-1:70"
	from, to := parts(one), parts(other)
	for _, x := range []struct {
		gone, whole int
		want        string
	}{
		{1, 0, other}, {0, 0, other}, {-1, 0, other}, {-million, 0, other}, {million, 0, other}, // no whole: ahead of nothing gone
		{0, -1, other}, {-5, -1, other}, {-1, -5, other}, {-5, -5, other}, {-million, -million, other}, {-million, -1, other}, {million, -million, other},
		{1, 1, other}, {2, 1, other}, {60, 60, other}, {61, 60, other}, {million, million, other}, {million, 1, other}, {million, million - 1, other},
		{0, 1, one}, {-1, 1, one}, {0, 60, one}, {-60, 60, one}, {0, million, one}, {-million, million, one}, {-million, 1, one},
		{59, 60, "b-1:32 c-1:68"}, {1, 60, "a-1:59 b-1:40 c-1:1"},
		{1, million, one}, {14285, million, one}, {14286, million, "a-1:59 b-1:40 c-1:1"},
		{million / 2, million, "a-1:25 b-1:40 c-1:35"}, {million - 1, million, "b-1:31 c-1:69"}, {million - 2, million - 1, "b-1:31 c-1:69"},
	} {
		checkShares(t, from, to, x.gone, x.whole, x.want)
	}
}

func TestP602Many(t *testing.T) {
	ones, others := hundred(100), hundred(200)
	checkShares(t, ones, others, 99, 100, told(ones)) // each has grown by 0.99, down
	checkShares(t, ones, others, 100, 100, told(others))
	checkShares(t, ones, parts("b-1:100"), 37, 100, told(append(ones[37:100:100], share("b-1", 37))))
	checkShares(t, parts("b-1:100"), others, 1, 2, "b-1:100")
}

// ends is what a revision weighs at the start, and at the end.
type ends struct{ from, to int }

// otherForm is the promise in another form: what has grown is sought from 0 up, and
// what is lost is taken away one by one, from the first one that has any left.
func otherForm(from, to []api.Share, gone, whole int) (l []api.Share) {
	if whole <= 0 || gone >= whole {
		return to
	}
	if gone <= 0 {
		return from
	}
	both := map[string]ends{}
	for _, s := range from {
		both[s.Rev] = ends{from: s.Weight}
	}
	for _, s := range to {
		both[s.Rev] = ends{both[s.Rev].from, s.Weight}
	}
	names, now, owed := slices.Sorted(maps.Keys(both)), map[string]int{}, 0
	for rev, e := range both {
		now[rev] = e.from
		for by := 1; by*whole <= (e.to-e.from)*gone; by++ {
			now[rev]++
			owed++
		}
	}
	for ; owed > 0; owed-- {
		i := slices.IndexFunc(names, func(rev string) bool { return now[rev] > both[rev].to && both[rev].to < both[rev].from })
		now[names[i]]--
	}
	for _, rev := range names {
		if now[rev] != 0 {
			l = append(l, share(rev, now[rev]))
		}
	}
	return l
}

// coarse are all sound lists of four revisions whose weights are tens of twenty.
func coarse() (l [][]api.Share) {
	for n := range 6 * 6 * 6 {
		a, b, c := n%6*20, n/6%6*20, n/36*20
		if d := 100 - a - b - c; d >= 0 {
			all := []api.Share{share("a-10", a), share("a-9", b), share("a-9-1", c), share("b-1", d)}
			l = append(l, slices.DeleteFunc(all, func(s api.Share) bool { return s.Weight == 0 }))
		}
	}
	return l
}

func TestP602ByAnotherForm(t *testing.T) {
	l := coarse()
	if len(l) != 56 {
		t.Fatalf("%d lists", len(l))
	}
	for _, from := range l {
		for _, to := range l {
			for whole := -1; whole <= 7; whole++ {
				for gone := -1; gone <= 8; gone++ {
					checkShares(t, from, to, gone, whole, told(otherForm(from, to, gone, whole)))
				}
			}
		}
	}
}

// anySound is a sound list of up to so many revisions, out of names that others have, too.
func anySound(d *rand.Rand, most int) (l []api.Share) {
	names := slices.Sorted(slices.Values([]string{
		"a-1", "a-10", "a-2", "a-9", "a-1-1", "a--1-1", "web-1", "web-10", "web-999999", "web-2", "z9-1", "abcdefghijklmnop-1", "b-1", "c-3",
	}))
	d.Shuffle(len(names), func(i, j int) { names[i], names[j] = names[j], names[i] })
	names = names[:1+d.Intn(most)]
	slices.Sort(names)
	cuts := []int{0, 100}
	for _, n := range d.Perm(99)[:len(names)-1] {
		cuts = append(cuts, n+1)
	}
	slices.Sort(cuts)
	for i, rev := range names {
		l = append(l, share(rev, cuts[i+1]-cuts[i]))
	}
	return l
}

func TestP602ByAnotherFormOfAny(t *testing.T) {
	d := rand.New(rand.NewSource(1))
	for range 20000 {
		from, to := anySound(d, 14), anySound(d, 14)
		whole := d.Intn(d.Intn(200)+1) + 1
		gone := d.Intn(whole+2) - 1
		if d.Intn(4) == 0 {
			whole = 1 + d.Intn(million)
			gone = d.Intn(whole + 1)
		}
		checkShares(t, from, to, gone, whole, told(otherForm(from, to, gone, whole)))
	}
}

// checkStep tells faults of a list on the way, behind the one of the time ahead.
func checkStep(t *testing.T, from, to, last, now []api.Share) {
	t.Helper()
	if !sound(now) {
		t.Fatalf("P603: %s to %s: %s is not sound", told(from), told(to), told(now))
	}
	for _, s := range slices.Concat(from, to, last, now) {
		a, b, was, is := Weight(from, s.Rev), Weight(to, s.Rev), Weight(last, s.Rev), Weight(now, s.Rev)
		if b >= a && is < was || b <= a && is > was || is < min(a, b) || is > max(a, b) {
			t.Fatalf("P603: %s to %s: %s goes from %d to %d", told(from), told(to), s.Rev, was, is)
		}
	}
}

func TestP603SoundAndOneWay(t *testing.T) {
	d := rand.New(rand.NewSource(2))
	for i := range 1500 {
		most := 1 + i%14
		from, to := anySound(d, most), anySound(d, most)
		whole := 1 + d.Intn(130)
		last := from
		for gone := -1; gone <= whole+1; gone++ {
			now := Shares(from, to, gone, whole)
			checkStep(t, from, to, last, now)
			last = now
		}
		if told(last) != told(to) {
			t.Fatalf("P602: %s, not %s", told(last), told(to))
		}
	}
}

func TestP603OverALongWay(t *testing.T) {
	from, to := parts("a-1:34 a-2:33 b-1:33"), parts("a-2:1 a-3:98 b-1:1")
	last := from
	for gone := 0; gone <= million; gone += 97 {
		now := Shares(from, to, gone, million)
		checkStep(t, from, to, last, now)
		last = now
	}
	checkStep(t, from, to, last, Shares(from, to, million, million))
}

func TestP603FromWhereItWasTold(t *testing.T) {
	d := rand.New(rand.NewSource(3))
	now := anySound(d, 6)
	for range 3000 { // as a route does that is turned on its way: from what was told last
		from, to, whole := now, anySound(d, 6), 1+d.Intn(60)
		now = Shares(from, to, d.Intn(whole+1), whole)
		checkStep(t, from, to, from, now)
	}
}

func numbers() []int {
	return []int{
		math.MinInt, math.MinInt + 1, math.MinInt32, -million - 1, -million, -101, -100, -2, -1, 0, 1, 2, 50, 99, 100, 101,
		million, million + 1, math.MaxInt32, 1 << 32, math.MaxInt / 100, math.MaxInt - 1, math.MaxInt,
	}
}

// wrong are lists that are not sound.
func wrong() [][]api.Share {
	l := [][]api.Share{
		nil, {}, {{}}, {{}, {}}, parts("b-1:50 a-1:50"), parts("a-1:50 a-1:50"), parts("a-1:0 b-1:100"), parts("a-1:50"), parts("a-1:100 b-1:100"),
		{share("", 100)}, {share("\xff", 50), share("é", 50)}, {share("A", 1), share(strings.Repeat("a", 1<<16), 99)}, slices.Concat(hundred(100), hundred(100), hundred(50)),
	}
	for _, n := range numbers() {
		l = append(l, []api.Share{share("a-1", n)}, []api.Share{share("a-1", n), share("b-1", -n)}, []api.Share{share("b-1", 100-n), share("a-1", n), share("b-1", n)})
	}
	return l
}

// P1: nothing panics, whatever it is given. P2: nothing is changed. P3: the same is answered again.
func TestP1P2P3Any(t *testing.T) {
	lists := append(wrong(), parts("a-1:100"), parts("a-1:40 b-1:60"), parts("b-1:100"))
	times := []int{math.MinInt, -million, -1, 0, 1, 3, million, math.MaxInt - 1, math.MaxInt}
	for _, from := range lists {
		for _, to := range lists {
			wasFrom, wasTo := slices.Clone(from), slices.Clone(to)
			for _, gone := range times {
				for _, whole := range times {
					one, two := Shares(from, to, gone, whole), Shares(from, to, gone, whole)
					if !reflect.DeepEqual(one, two) {
						t.Fatalf("P3: %s to %s, %d of %d: not the same again", brief(from), brief(to), gone, whole)
					}
				}
			}
			if !slices.Equal(from, wasFrom) || !slices.Equal(to, wasTo) {
				t.Fatalf("P2: %s, %s, were %s, %s", brief(from), brief(to), brief(wasFrom), brief(wasTo))
			}
		}
	}
}

func TestP1Many(t *testing.T) {
	var from, to []api.Share
	for i := range 1 << 17 {
		from = append(from, share("a-"+strconv.Itoa(100000+i), 1+i%2))
		to = append(to, share("a-"+strconv.Itoa(900000-i), math.MaxInt-i))
	}
	for _, gone := range []int{-1, 0, 1, 2, 3} {
		Shares(from, to, gone, 3)
		Shares(to, from, gone, 3)
	}
	checkWeight(t, from, "a-"+strconv.Itoa(100000+1<<17-1), 2)
	checkWeight(t, from, "b", 0)
}

func TestP2SpareRoomIsNotChanged(t *testing.T) {
	from, to := parts("a-1:60 b-1:40 spare-1:3 spare-2:4"), parts("b-1:30 c-1:70 spare-3:5 spare-4:6")
	wasFrom, wasTo := slices.Clone(from), slices.Clone(to)
	for gone := -1; gone <= 5; gone++ {
		checkShares(t, from[:2], to[:2], gone, 4, told(otherForm(wasFrom[:2], wasTo[:2], gone, 4)))
	}
	if !slices.Equal(from, wasFrom) || !slices.Equal(to, wasTo) {
		t.Errorf("P2: %v, %v", from, to)
	}
}

func TestP2AnswersAreNewMemory(t *testing.T) {
	from, to := parts("a-1:60 b-1:40 spare-1:3"), parts("a-1:10 b-1:40 c-1:50 spare-2:4")
	from, to = from[:2], to[:3]
	wasFrom, wasTo := slices.Clone(from), slices.Clone(to)
	texts := map[*byte]string{}
	for _, s := range slices.Concat(from, to) {
		texts[unsafe.StringData(s.Rev)] = s.Rev
	}
	for gone := -1; gone <= 5; gone++ {
		got, again := Shares(from, to, gone, 4), Shares(from, to, gone, 4)
		want := told(again)
		for _, s := range got {
			if of, is := texts[unsafe.StringData(s.Rev)]; is {
				t.Errorf("P2: %d: %s is what was handed in", gone, of)
			}
		}
		got = got[:cap(got)]
		for i := range got {
			got[i] = share("over", -1)
		}
		if told(again) != want || !slices.Equal(from[:3], append(wasFrom, share("spare-1", 3))) || !slices.Equal(to[:4], append(wasTo, share("spare-2", 4))) {
			t.Errorf("P2: %d: %v, %v, %v", gone, again, from[:3], to[:4])
		}
	}
}
