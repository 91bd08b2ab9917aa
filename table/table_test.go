package table

import (
	"fmt"
	"math"
	"math/rand"
	"reflect"
	"regexp"
	"slices"
	"strconv"
	"strings"
	"testing"
	"unsafe"

	"damper/api"
)

// W1 once more, in another way than package label's.
var (
	tagForm = regexp.MustCompile(`\A[a-z](?:[a-z0-9-]{0,6}[a-z0-9])?\z`)
	revForm = regexp.MustCompile(`\A[a-z](?:[a-z0-9-]{0,14}[a-z0-9])?-[1-9][0-9]{0,5}\z`)
)

func share(rev string, weight int) api.Share { return api.Share{Rev: rev, Weight: weight} }

func tagTo(tag, rev string) api.TagTo { return api.TagTo{Tag: tag, Rev: rev} }

// soundTable is a right one, of several Shares and tags.
func soundTable() api.Table {
	return api.Table{
		Shares: []api.Share{share("a-10", 1), share("a-9", 29), share("web-1", 50), share("web-2", 20)},
		Tags:   []api.TagTo{tagTo("blue", "web-2"), tagTo("old", "web-1"), tagTo("out", "zz-7")},
	}
}

// rightTables are such as may be, from one Share to a hundred.
func rightTables() []api.Table {
	many := api.Table{}
	for i := range 100 {
		many.Shares = append(many.Shares, share("a-"+strconv.Itoa(100+i), 1))
		many.Tags = append(many.Tags, tagTo("t"+strconv.Itoa(100+i), "a-"+strconv.Itoa(1+i)))
	}
	return []api.Table{
		soundTable(), many,
		{Shares: []api.Share{share("web-1", 100)}},
		{Shares: []api.Share{share("a-1", 1), share("a-2", 99)}},
		{Shares: []api.Share{share("a-1", 99), share("a-2", 1)}, Tags: []api.TagTo{}},
		{Shares: []api.Share{share("a-1", 33), share("b-1", 33), share("c-1", 34)}, Tags: []api.TagTo{tagTo("a", "a-1")}},
	}
}

// numbers are weights and draws that may be anything.
func numbers() []int {
	return []int{
		math.MinInt, math.MinInt + 1, math.MinInt32, -201, -200, -101, -100, -99, -2, -1, 0, 1, 2, 49, 50, 98, 99, 100, 101, 199, 200,
		math.MaxInt32, math.MaxInt32 + 1, 1 << 32, 1<<32 + 100, math.MaxInt - 1, math.MaxInt,
	}
}

// texts are such as are names of revisions, tags, or none of these.
func texts() []string {
	z := strings.Repeat("z", 16)
	return []string{
		"", "-", "a", "z9", "a-b", "abcdefgh", "abcdefghi", "a-1", "a--1", "a-0", "a-01", "a-9", "a-10", "a-999999", "a-1000000", "web-1", "web-1-", "web-1-2",
		"A-1", "web", "Web", "1-1", "-1", "a-1 ", " a-1", "a-1\n", "a-1\x00", "a\xff-1", "\xff", "é", "é-1", "a-b-1", "abcdefghij-1", z + "-1", z + "z-1",
		"a:1", "a=b", "a b", strings.Repeat("a", 1<<16), strings.Repeat("a", 1<<16) + "-1",
	}
}

// anyTables are wrong ones, and some that are not.
func anyTables() []api.Table {
	l := append(rightTables(), api.Table{}, api.Table{Shares: []api.Share{{}}}, api.Table{Tags: []api.TagTo{{}}})
	for _, n := range numbers() {
		for _, s := range texts() {
			l = append(l,
				api.Table{Shares: []api.Share{share(s, n)}},
				api.Table{Shares: []api.Share{share(s, n), share("b-1", 100-n)}, Tags: []api.TagTo{tagTo(s, s)}},
				api.Table{Shares: []api.Share{share("a-1", 100)}, Tags: []api.TagTo{tagTo("a", s), tagTo(s, "a-1")}})
		}
	}
	return l
}

func copyOf(t api.Table) api.Table {
	return api.Table{Shares: slices.Clone(t.Shares), Tags: slices.Clone(t.Tags)}
}

// brief is a table as a failing test tells it, however long it is.
func brief(x api.Table) string { return fmt.Sprintf("%.200q", fmt.Sprint(x)) }

func checkRight(t *testing.T, x api.Table, want bool) {
	t.Helper()
	if got := Right(x); got != want {
		t.Errorf("P501: Right(%s) = %v", brief(x), got)
	}
}

func checkPick(t *testing.T, x api.Table, draw int, want string) {
	t.Helper()
	if got := Pick(x, draw); got != want {
		t.Errorf("P501: Pick(%s, %d) = %q, want %q", brief(x), draw, got, want)
	}
}

func checkByTag(t *testing.T, x api.Table, tag, want string, there bool) {
	t.Helper()
	if got, is := ByTag(x, tag); got != want || is != there {
		t.Errorf("P501: ByTag(%s, %.40q) = %q, %v, want %q, %v", brief(x), tag, got, is, want, there)
	}
}

func checkSame(t *testing.T, a, b api.Table, want bool) {
	t.Helper()
	if Same(a, b) != want || Same(b, a) != want {
		t.Errorf("P501: Same(%s, %s) = %v, %v, want %v", brief(a), brief(b), Same(a, b), Same(b, a), want)
	}
}

func checkText(t *testing.T, x api.Table, want string) {
	t.Helper()
	if got := Text(x); got != want {
		t.Errorf("P501: Text(%s) = %q, want %q", brief(x), got, want)
	}
}

func TestP501RightOnes(t *testing.T) {
	for _, x := range rightTables() {
		checkRight(t, x, true)
	}
}

func TestP501RightShares(t *testing.T) {
	shares := func(l ...api.Share) api.Table { return api.Table{Shares: l} }
	for _, x := range []api.Table{
		shares(share("a-10", 50), share("a-9", 50)), // by bytes, not by numbers
		shares(share("a--1-1", 50), share("a-1", 50)),
		shares(share("a-1", 50), share("a-1-1", 50)),
		shares(share("a-1", 50), share("a0-1", 50)),
		shares(share("a-2", 50), share("b-1", 50)),
		shares(share("abcdefghijklmnop-999999", 100)),
	} {
		checkRight(t, x, true)
	}
	for _, x := range []api.Table{
		shares(), {Shares: []api.Share{}}, {Tags: soundTable().Tags},
		shares(share("a-9", 50), share("a-10", 50)), shares(share("b-1", 50), share("a-2", 50)), // not by names
		shares(share("a-1", 40), share("c-1", 30), share("b-1", 30)),
		shares(share("a-1", 50), share("a-1", 50)), shares(share("a-1", 40), share("a-2", 30), share("a-2", 30)), // one twice
		shares(share("a-1", 99)), shares(share("a-1", 101)), shares(share("a-1", 50), share("a-2", 49)), shares(share("a-1", 50), share("a-2", 51)),
		shares(share("a-1", 100), share("a-2", 100)),
		shares(share("a-1", 0), share("a-2", 100)), shares(share("a-1", 100), share("a-2", 0)), // one of no weight
		shares(share("a-1", -1), share("a-2", 101)), shares(share("a-1", 101), share("a-2", -1)),
		shares(share("a-1", -1), share("a-2", 50), share("a-3", 51)), shares(share("a-1", 101), share("a-2", 50), share("a-3", -51)),
		shares(share("a-1", math.MaxInt), share("a-2", math.MaxInt), share("a-3", 102)), // a hundred by wrap-round
		shares(share("a-1", math.MinInt), share("a-2", math.MinInt), share("a-3", 100)),
		shares(share("a-1", 1<<32+100)), shares(share("a-1", 1<<32+50), share("a-2", 50)),
	} {
		checkRight(t, x, false)
	}
}

func TestP501RightWeights(t *testing.T) {
	for n := -300; n <= 300; n++ {
		checkRight(t, api.Table{Shares: []api.Share{share("a-1", n)}}, n == 100)
		checkRight(t, api.Table{Shares: []api.Share{share("a-1", n), share("a-2", 100-n)}}, 1 <= n && n <= 99)
		checkRight(t, api.Table{Shares: []api.Share{share("a-1", n), share("a-2", 99-n), share("a-3", 1)}}, 1 <= n && n <= 98)
	}
	for many := 1; many <= 102; many++ {
		x := api.Table{}
		for i := range many {
			x.Shares = append(x.Shares, share("a-"+strconv.Itoa(1000+i), 1))
		}
		checkRight(t, x, many == 100)
		x.Shares[many-1].Weight = 101 - many
		checkRight(t, x, many <= 100)
	}
}

func TestP501RightTags(t *testing.T) {
	tags := func(l ...api.TagTo) api.Table { return api.Table{Shares: soundTable().Shares, Tags: l} }
	for _, x := range []api.Table{
		tags(), {Shares: soundTable().Shares, Tags: []api.TagTo{}},
		tags(tagTo("a", "a-9")), tags(tagTo("abcdefgh", "abcdefghijklmnop-999999")), // to one that has no Share, too
		tags(tagTo("a", "a-9"), tagTo("b", "a-9")), // two to one
		tags(tagTo("t10", "b-1"), tagTo("t9", "a-1")), tags(tagTo("a--a", "a-1"), tagTo("a-a", "a-1")), tags(tagTo("a", "a-1"), tagTo("aa", "a-1")),
	} {
		checkRight(t, x, true)
	}
	for _, x := range []api.Table{
		tags(tagTo("b", "a-1"), tagTo("a", "a-2")), tags(tagTo("t9", "a-1"), tagTo("t10", "a-2")), tags(tagTo("aa", "a-1"), tagTo("a", "a-2")), // not by Tag
		tags(tagTo("a", "a-1"), tagTo("c", "a-2"), tagTo("b", "a-3")),
		tags(tagTo("a", "a-1"), tagTo("a", "a-1")), tags(tagTo("a", "a-1"), tagTo("a", "a-2")), tags(tagTo("a", "a-1"), tagTo("b", "a-1"), tagTo("b", "a-2")),
		tags(tagTo("", "a-1")), tags(tagTo("", "a-1"), tagTo("a", "a-1")), tags(tagTo("a", "a-1"), tagTo("", "a-1")),
		tags(tagTo("abcdefghi", "a-1")), // a name, but of too many signs
		tags(tagTo("a", "")), tags(tagTo("a", "a")), tags(tagTo("a", "a-1"), tagTo("b", "")), tags(tagTo("a", "a-0"), tagTo("b", "a-1")),
	} {
		checkRight(t, x, false)
	}
}

func TestP501RightTexts(t *testing.T) {
	revs, tags := 0, 0
	for _, s := range texts() {
		isRev, isTag := revForm.MatchString(s), tagForm.MatchString(s)
		checkRight(t, api.Table{Shares: []api.Share{share(s, 100)}}, isRev)
		checkRight(t, api.Table{Shares: []api.Share{share("a", 50), share(s, 50)}}, false)
		checkRight(t, api.Table{Shares: []api.Share{share(s, 50), share("zzzzzzzzzzzzzzzz-9", 50)}}, isRev)
		for _, of := range rightTables() {
			checkRight(t, api.Table{Shares: of.Shares, Tags: []api.TagTo{tagTo("a", s)}}, isRev)
			checkRight(t, api.Table{Shares: of.Shares, Tags: []api.TagTo{tagTo(s, "a-1")}}, isTag)
			checkRight(t, api.Table{Shares: of.Shares, Tags: []api.TagTo{tagTo(s, "a-1"), tagTo("zzz", s)}}, isTag && isRev)
		}
		if isRev {
			revs++
		}
		if isTag {
			tags++
		}
	}
	if revs == 0 || tags == 0 {
		t.Error("P501: no text was one")
	}
}

func TestP501PickByHand(t *testing.T) {
	for draw, want := range map[int]string{
		0: "a-10", 1: "a-9", 2: "a-9", 29: "a-9", 30: "web-1", 79: "web-1", 80: "web-2", 99: "web-2",
		100: "a-10", 101: "a-9", 129: "a-9", 130: "web-1", 179: "web-1", 180: "web-2", 199: "web-2", 200: "a-10", 12300: "a-10",
		-1: "web-2", -20: "web-2", -21: "web-1", -70: "web-1", -71: "a-9", -99: "a-9", -100: "a-10", -101: "web-2", -200: "a-10",
		math.MaxInt: "a-9", math.MinInt: "web-2", math.MaxInt32: "web-1", math.MinInt32: "web-1", // 7, 92, 47, 52 are left
	} {
		checkPick(t, soundTable(), draw, want)
	}
	for _, draw := range numbers() {
		checkPick(t, api.Table{Shares: []api.Share{share("web-1", 100)}}, draw, "web-1")
	}
}

// laid is the promise in another form: a place each of what may be left of a draw.
func laid(l []api.Share) (places []string) {
	for _, s := range l {
		for range s.Weight {
			places = append(places, s.Rev)
		}
	}
	return places
}

func TestP501PickByAnotherForm(t *testing.T) {
	for _, x := range rightTables() {
		places := laid(x.Shares)
		for draw := range 1100 { // from below, so that no remainder of a negative one is asked here
			checkPick(t, x, draw-500, places[draw%100])
		}
		for i, want := range places {
			checkPick(t, x, 100*(math.MaxInt/100-1)+i, want)
			checkPick(t, x, 100*(math.MinInt/100)+i, want)
		}
	}
}

func TestP501PickAsksNoTags(t *testing.T) {
	x := soundTable()
	for draw := range 100 {
		checkPick(t, api.Table{Shares: x.Shares}, draw, Pick(x, draw))
	}
}

func TestP502AHundredDraws(t *testing.T) {
	for _, x := range rightTables() {
		for _, from := range []int{math.MinInt, math.MinInt + 50, -250, -100, -99, -50, -1, 0, 1, 50, 99, 100, 4711, math.MaxInt - 99} {
			had := map[string]int{}
			for i := range 100 {
				had[Pick(x, from+i)]++
			}
			for _, s := range x.Shares {
				if had[s.Rev] != s.Weight {
					t.Errorf("P502: from %d: %s has %d, not %d", from, s.Rev, had[s.Rev], s.Weight)
				}
			}
			if len(had) != len(x.Shares) {
				t.Errorf("P502: from %d: %v", from, had)
			}
		}
	}
}

func TestP501ByTag(t *testing.T) {
	x := soundTable()
	checkByTag(t, x, "blue", "web-2", true)
	checkByTag(t, x, "old", "web-1", true)
	checkByTag(t, x, "out", "zz-7", true)
	for _, tag := range append(texts(), "blu", "blue-", "bluee", "Blue", "BLUE", "blue ", " blue", "blue\x00", "ou", "web-2", "zz-7", "a-10") {
		checkByTag(t, x, tag, "", false)
		for _, none := range []api.Table{{}, {Shares: x.Shares}, {Shares: x.Shares, Tags: []api.TagTo{}}} {
			checkByTag(t, none, tag, "", false)
		}
	}
	many := rightTables()[1]
	for i, to := range many.Tags {
		checkByTag(t, many, "t"+strconv.Itoa(100+i), "a-"+strconv.Itoa(1+i), true)
		checkByTag(t, many, to.Rev, "", false)
	}
}

func TestP501Same(t *testing.T) {
	l := rightTables()
	for i, a := range l {
		for j, b := range l {
			checkSame(t, a, copyOf(b), i == j)
		}
	}
	none := api.Table{}
	for _, x := range []api.Table{{Shares: []api.Share{}}, {Tags: []api.TagTo{}}, {Shares: []api.Share{}, Tags: []api.TagTo{}}} {
		checkSame(t, none, x, true) // no list and an empty one
	}
	one := soundTable()
	one.Tags = nil
	two := soundTable()
	two.Tags = []api.TagTo{}
	checkSame(t, one, two, true)
}

// otherTables differ from soundTable in one thing each.
func otherTables() (l []api.Table) {
	add := func(change func(x *api.Table)) {
		x := soundTable()
		change(&x)
		l = append(l, x)
	}
	for i := range soundTable().Shares {
		add(func(x *api.Table) { x.Shares[i].Rev += "0" })
		add(func(x *api.Table) { x.Shares[i].Rev = "" })
		add(func(x *api.Table) { x.Shares[i].Weight++ })
		add(func(x *api.Table) { x.Shares[i].Weight = -x.Shares[i].Weight })
		add(func(x *api.Table) { x.Shares[i].Weight += 1 << 32 })
		add(func(x *api.Table) { x.Shares = slices.Delete(x.Shares, i, i+1) })
		add(func(x *api.Table) { x.Shares = slices.Insert(x.Shares, i, x.Shares[i]) })
	}
	for i := range soundTable().Tags {
		add(func(x *api.Table) { x.Tags[i].Tag += "0" })
		add(func(x *api.Table) { x.Tags[i].Tag = "" })
		add(func(x *api.Table) { x.Tags[i].Rev += "0" })
		add(func(x *api.Table) { x.Tags[i].Rev = "" })
		add(func(x *api.Table) { x.Tags = slices.Delete(x.Tags, i, i+1) })
		add(func(x *api.Table) { x.Tags = slices.Insert(x.Tags, i, x.Tags[i]) })
	}
	add(func(x *api.Table) { x.Shares[0], x.Shares[1] = x.Shares[1], x.Shares[0] })
	add(func(x *api.Table) { x.Tags[0], x.Tags[1] = x.Tags[1], x.Tags[0] })
	add(func(x *api.Table) { x.Shares[0].Weight, x.Shares[1].Weight = x.Shares[1].Weight, x.Shares[0].Weight })
	add(func(x *api.Table) { x.Tags[0].Rev, x.Tags[1].Rev = x.Tags[1].Rev, x.Tags[0].Rev })
	add(func(x *api.Table) { x.Tags[0].Tag, x.Tags[0].Rev = x.Tags[0].Rev, x.Tags[0].Tag })
	add(func(x *api.Table) { x.Shares = append(x.Shares, api.Share{}) })
	add(func(x *api.Table) { x.Tags = append(x.Tags, api.TagTo{}) })
	add(func(x *api.Table) { x.Shares = nil })
	add(func(x *api.Table) { x.Tags = nil })
	return l
}

func TestP501SameInAllButOneThing(t *testing.T) {
	for _, x := range otherTables() {
		checkSame(t, soundTable(), x, false)
		checkSame(t, x, copyOf(x), true)
	}
}

// Same is of any tables: what of wrong ones is told alike is not the same for it.
func TestP501SameOfWrongOnes(t *testing.T) {
	shares := func(l ...api.Share) api.Table { return api.Table{Shares: l} }
	tags := func(l ...api.TagTo) api.Table { return api.Table{Tags: l} }
	for _, x := range [][2]api.Table{
		{shares(share("a", 1)), tags(tagTo("a", "1"))}, {shares(share("", 0)), tags(tagTo("", ""))}, {shares(share("", 0)), {}}, {tags(tagTo("", "")), {}},
		{shares(share("a", 1), share("b", 2)), shares(share("a:1 b", 2))}, {tags(tagTo("a", "b"), tagTo("c", "d")), tags(tagTo("a", "b c=d"))},
		{tags(tagTo("a=b", "c")), tags(tagTo("a", "b=c"))}, {tags(tagTo("ab", "c")), tags(tagTo("a", "bc"))},
		{shares(share("a-", 1)), shares(share("a", -1))}, {shares(share("a1", 1)), shares(share("a", 11))},
		{shares(share("a", 0)), shares(share("a", math.MinInt))}, {shares(share("a", -1)), shares(share("a", math.MaxInt))}, {shares(share("a", 1)), shares(share("a", 1<<32+1))},
		{shares(share("a", 1), share("b", 2)), shares(share("b", 2), share("a", 1))}, {tags(tagTo("a", "b"), tagTo("c", "d")), tags(tagTo("c", "d"), tagTo("a", "b"))},
		{shares(share("\xff", 1)), shares(share("\ufffd", 1))}, {tags(tagTo("a\x00", "")), tags(tagTo("a", "\x00"))},
	} {
		checkSame(t, x[0], x[1], false)
		for _, y := range x {
			checkSame(t, y, copyOf(y), true)
		}
	}
	for _, x := range anyTables() {
		checkSame(t, x, copyOf(x), true)
	}
}

// few is any table of few things, so that two are often alike.
func few(d *rand.Rand) (x api.Table) {
	for range d.Intn(3) {
		x.Shares = append(x.Shares, share([]string{"a", "b"}[d.Intn(2)], d.Intn(2)))
	}
	for range d.Intn(3) {
		x.Tags = append(x.Tags, tagTo([]string{"a", "b"}[d.Intn(2)], []string{"0", "1"}[d.Intn(2)]))
	}
	return x
}

func TestP501SameByAnotherForm(t *testing.T) {
	d := rand.New(rand.NewSource(1))
	told := map[bool]int{}
	for range 100000 {
		a, b := few(d), few(d)
		want := reflect.DeepEqual(a, b) // of these an empty list is always nil
		checkSame(t, a, b, want)
		told[want]++
	}
	if told[true] < 100 || told[false] < 100 {
		t.Errorf("P501: %v", told)
	}
}

func TestP501Text(t *testing.T) {
	x := soundTable()
	checkText(t, x, "a-10:1 a-9:29 web-1:50 web-2:20 blue=web-2 old=web-1 out=zz-7")
	checkText(t, api.Table{Shares: x.Shares}, "a-10:1 a-9:29 web-1:50 web-2:20")
	checkText(t, api.Table{Shares: x.Shares, Tags: []api.TagTo{}}, "a-10:1 a-9:29 web-1:50 web-2:20")
	checkText(t, api.Table{Shares: []api.Share{share("web-1", 100)}}, "web-1:100") // the chapter's example
	checkText(t, api.Table{Shares: []api.Share{share("web-1", 100)}, Tags: []api.TagTo{tagTo("t", "web-1")}}, "web-1:100 t=web-1")
	for _, none := range []api.Table{{}, {Shares: []api.Share{}, Tags: []api.TagTo{}}} {
		checkText(t, none, "")
	}
	many := rightTables()[1]
	words := strings.Split(Text(many), " ")
	if len(words) != 200 || words[0] != "a-100:1" || words[99] != "a-199:1" || words[100] != "t100=a-1" || words[199] != "t199=a-100" {
		t.Errorf("P501: %q", words)
	}
}

// P1: nothing panics, whatever it is given. P2: nothing is changed. P3: the same is answered again.
func TestP1P2P3Any(t *testing.T) {
	for _, x := range anyTables() {
		was := copyOf(x)
		told := func() []any {
			l := []any{Right(x), Text(x), Same(x, was), Same(was, soundTable())}
			for _, n := range numbers() {
				l = append(l, Pick(x, n))
			}
			for _, s := range []string{"", "a", "blue", "a-1", "\xff"} {
				rev, is := ByTag(x, s)
				l = append(l, rev, is)
			}
			return l
		}
		if !reflect.DeepEqual(told(), told()) {
			t.Errorf("P3: %s: not the same again", brief(x))
		}
		if !reflect.DeepEqual(x, was) {
			t.Errorf("P2: %s, was %s", brief(x), brief(was))
		}
	}
}

func TestP1Many(t *testing.T) {
	x := api.Table{}
	for i := range 1 << 17 {
		x.Shares = append(x.Shares, share("a-"+strconv.Itoa(100000+i), 1))
		x.Tags = append(x.Tags, tagTo("t"+strconv.Itoa(100000+i), "a-1"))
	}
	checkRight(t, x, false)
	checkSame(t, x, copyOf(x), true)
	checkRight(t, api.Table{Shares: x.Shares[:100], Tags: x.Tags}, true)
	if len(strings.Split(Text(x), " ")) != 1<<18 {
		t.Error("P501: Text of many")
	}
}

func TestP2SpareRoomIsNotChanged(t *testing.T) {
	shares := append(soundTable().Shares, share("spare-1", 3))
	tags := append(soundTable().Tags, tagTo("spare", "spare-1"))
	wasShares, wasTags := slices.Clone(shares), slices.Clone(tags)
	x := api.Table{Shares: shares[:4], Tags: tags[:3]}
	checkRight(t, x, true)
	checkSame(t, x, soundTable(), true)
	checkPick(t, x, 99, "web-2")
	checkByTag(t, x, "out", "zz-7", true)
	checkByTag(t, x, "spare", "", false)
	checkText(t, x, Text(soundTable()))
	if !slices.Equal(shares, wasShares) || !slices.Equal(tags, wasTags) {
		t.Errorf("P2: %v, %v", shares, tags)
	}
}

func TestP2AnswersAreNewMemory(t *testing.T) {
	x := soundTable()
	for _, s := range x.Shares {
		draw := slices.Index(laid(x.Shares), s.Rev)
		if got := Pick(x, draw); got != s.Rev || unsafe.StringData(got) == unsafe.StringData(s.Rev) {
			t.Errorf("P2: Pick answers %q of what it was given", got)
		}
	}
	for _, to := range x.Tags {
		if got, _ := ByTag(x, to.Tag); got != to.Rev || unsafe.StringData(got) == unsafe.StringData(to.Rev) {
			t.Errorf("P2: ByTag answers %q of what it was given", got)
		}
	}
	if one, two := Text(x), Text(x); one != two || unsafe.StringData(one) == unsafe.StringData(two) {
		t.Error("P2: Text answers one text twice")
	}
}
