package stamp

import (
	"math"
	"math/rand"
	"regexp"
	"slices"
	"strconv"
	"strings"
	"testing"
	"unsafe"

	"damper/api"
	"damper/spec"
)

func sound(name string) api.Config {
	return api.Config{Name: name, Image: 7, Conc: 2, Min: 1, Max: 3, Grace: 4}
}

// others are such as differ from sound in one thing each, but for the name.
func others(name string) []api.Config {
	l := slices.Repeat([]api.Config{sound(name)}, 5)
	l[0].Image, l[1].Conc, l[2].Min, l[3].Max, l[4].Grace = 8, 3, 0, 4, 5
	return l
}

// of is the revision of c at gen, put together without package label.
func of(c api.Config, gen int) api.Revision {
	return api.Revision{Name: c.Name + "-" + strconv.Itoa(gen), Gen: gen, Of: c}
}

// numbers may be a generation, or a part of a configuration, or may not.
func numbers() []int {
	return []int{math.MinInt, math.MinInt32, -999999, -1, 0, 1, 2, 8, 9, 10, 255, 256, 999999, 1000000, math.MaxInt32, 1<<32 + 1, math.MaxInt - 1, math.MaxInt}
}

// texts are such as name neither the configuration "web", nor a revision of it.
func texts() []string {
	return []string{"", "-", "-1", "a", "web-", "we", "webb", "WEB", "Web-1", "web ", "web -1", "web\x00", "\xff", "é", "web--1", "web-0",
		"web-01", "web-001", "web-00", "web-+1", "web--1", "web-1 ", " web-1", "web-1\n", "web-1\x00", "web-1-", "web-1-1", "web-a", "web-1a", "web-a1", "web1",
		"web_1", "web-1.0", "web-0x1", "web-1000000", "web-1000001", "web-4294967297", "web-18446744073709551617", "web-\uff11", "we\xff-1", "wéb-1", "1-1", "wob-1",
		strings.Repeat("a", 17), strings.Repeat("a", 17) + "-1", strings.Repeat("web-", 1<<14) + "1", strings.Repeat("1", 1<<16)}
}

// calls are a Book's, or those of what is held against one.
type calls interface {
	Stamp(c api.Config, gen int) (rev string, is bool)
	Get(rev string) (api.Revision, bool)
	Prove(rev string) api.Errno
	Proved(rev string) bool
	Latest(config string) (made, ready string)
	All() []string
}

// The wants make a call, and ask what it answers.

func wantStamp(t *testing.T, b calls, c api.Config, gen int, rev string, is bool) {
	t.Helper()
	if r, i := b.Stamp(c, gen); r != rev || i != is {
		t.Fatalf("P1201: Stamp(%+v, %d) = %q, %v, want %q, %v", c, gen, r, i, rev, is)
	}
}

// wantGet: of the zero Revision, there is none.
func wantGet(t *testing.T, b calls, rev string, want api.Revision) {
	t.Helper()
	if r, is := b.Get(rev); r != want || is != (want != api.Revision{}) {
		t.Fatalf("P1201, P1202: Get(%.40q) = %+v, %v, want %+v", rev, r, is, want)
	}
}

func wantProve(t *testing.T, b calls, rev string, no api.Errno) {
	t.Helper()
	if e := b.Prove(rev); e != no {
		t.Fatalf("P1201: Prove(%.40q) = %v, want %v", rev, e, no)
	}
}

// wantProved: of all, those that are named are proved.
func wantProved(t *testing.T, b calls, proved ...string) {
	t.Helper()
	for _, rev := range append(b.All(), proved...) {
		if b.Proved(rev) != slices.Contains(proved, rev) {
			t.Fatalf("P1201: Proved(%q) = %v", rev, b.Proved(rev))
		}
	}
}

func wantLatest(t *testing.T, b calls, config, made, ready string) {
	t.Helper()
	if m, r := b.Latest(config); m != made || r != ready {
		t.Fatalf("P1201: Latest(%.40q) = %q, %q, want %q, %q", config, m, r, made, ready)
	}
}

func wantAll(t *testing.T, b calls, revs ...string) {
	t.Helper()
	if l := b.All(); !slices.Equal(l, revs) {
		t.Fatalf("P1201: All = %q, want %q", l, revs)
	}
}

// wantNone holds of what a book that has no such revision, or configuration, tells.
func wantNone(t *testing.T, b calls, texts ...string) {
	t.Helper()
	for _, s := range texts {
		wantGet(t, b, s, api.Revision{})
		wantProve(t, b, s, api.ErrNone)
		if b.Proved(s) {
			t.Fatalf("P1201: Proved(%.40q)", s)
		}
	}
}

// stamped is a book with revisions of one configuration, stamped in that order.
func stamped(t *testing.T, name string, gens ...int) *Book {
	t.Helper()
	b := New()
	for _, gen := range gens {
		wantStamp(t, b, sound(name), gen, name+"-"+strconv.Itoa(gen), true)
	}
	return b
}

func wantEmpty(t *testing.T, b calls) {
	t.Helper()
	wantAll(t, b)
	for _, s := range append(texts(), "web", "web-1", "web-999999") {
		wantNone(t, b, s)
		wantLatest(t, b, s, "", "")
	}
	wantAll(t, b)
}

func TestP1201New(t *testing.T) { wantEmpty(t, New()) }

func TestExample(t *testing.T) { wantLatest(t, New(), "web", "", "") }

func TestP1201Stamp(t *testing.T) {
	z := strings.Repeat("z", 16)
	for _, x := range []struct {
		config string
		gen    int
		rev    string
	}{
		{"web", 1, "web-1"}, {"a", 1, "a-1"}, {"a", 9, "a-9"}, {"a", 10, "a-10"}, {"a", 999999, "a-999999"}, {"a", 999998, "a-999998"}, {"a", 100000, "a-100000"},
		{z, 999999, z + "-999999"}, {z, 1, z + "-1"}, {"a-1", 2, "a-1-2"}, {"a-1-2", 3, "a-1-2-3"}, {"a--b", 20, "a--b-20"}, {"z0", 7, "z0-7"},
	} {
		for _, c := range append(others(x.config), sound(x.config)) {
			b := New()
			wantStamp(t, b, c, x.gen, x.rev, true)
			wantGet(t, b, x.rev, api.Revision{Name: x.rev, Gen: x.gen, Of: c})
			wantAll(t, b, x.rev)
			wantProved(t, b) // not proved
			wantLatest(t, b, x.config, x.rev, "")
		}
	}
}

// The bounds of each part of a configuration, which tell that all of it is kept.
func TestP1201OfTheWholeConfiguration(t *testing.T) {
	b := New()
	var revs []api.Revision
	for _, image := range []int{0, 1, 255} {
		for _, conc := range []int{1, 8} {
			for _, most := range []int{1, 10} {
				for _, least := range []int{0, most} {
					for _, grace := range []int{0, 30} {
						c := api.Config{Name: "web", Image: image, Conc: conc, Min: least, Max: most, Grace: grace}
						r := of(c, len(revs)+1)
						wantStamp(t, b, c, r.Gen, r.Name, true)
						revs = append(revs, r)
					}
				}
			}
		}
	}
	for _, r := range revs {
		wantGet(t, b, r.Name, r)
	}
}

func TestP1201StampOfOneThatIsThere(t *testing.T) {
	b := stamped(t, "web", 2)
	for _, c := range append(others("web"), sound("web")) {
		for range 2 {
			wantStamp(t, b, c, 2, "web-2", false) // its name is told all the same
			wantGet(t, b, "web-2", of(sound("web"), 2))
			wantProved(t, b)
			wantAll(t, b, "web-2")
			wantLatest(t, b, "web", "web-2", "")
		}
	}
	wantProve(t, b, "web-2", api.OK)
	wantStamp(t, b, others("web")[0], 2, "web-2", false)
	wantProved(t, b, "web-2") // it is proved still
	wantLatest(t, b, "web", "web-2", "web-2")
	wantStamp(t, b, others("web")[0], 3, "web-3", true)
	wantGet(t, b, "web-2", of(sound("web"), 2))
	wantGet(t, b, "web-3", of(others("web")[0], 3))
	wantProved(t, b, "web-2") // from a proved one no other is proved
}

func TestP1201GetAndProveOfAnyText(t *testing.T) {
	b := stamped(t, "web", 1, 10, 999999)
	wantNone(t, b, texts()...)
	wantNone(t, b, "web", "web-2", "web-11", "web-100", "web-999998")
	wantProve(t, b, "web-10", api.OK)
	wantNone(t, b, texts()...)
	wantProved(t, b, "web-10")
	wantAll(t, b, "web-1", "web-10", "web-999999")
}

// A revision's name may be a configuration's, too.
func TestP1201PartedByTheLast(t *testing.T) {
	b := New()
	wantStamp(t, b, sound("a"), 1, "a-1", true)
	wantStamp(t, b, sound("a-1"), 2, "a-1-2", true)
	wantLatest(t, b, "a", "a-1", "")
	wantLatest(t, b, "a-1", "a-1-2", "")
	wantLatest(t, b, "a-1-2", "", "")
	wantStamp(t, b, sound("a-1-2"), 1, "a-1-2-1", true)
	wantStamp(t, b, sound("a-1"), 1, "a-1-1", true)
	wantStamp(t, b, sound("a"), 12, "a-12", true)
	wantAll(t, b, "a-1", "a-1-1", "a-1-2", "a-1-2-1", "a-12")
	wantGet(t, b, "a-1-2", of(sound("a-1"), 2))
	wantGet(t, b, "a-1", of(sound("a"), 1))
	wantGet(t, b, "a-1-2-1", of(sound("a-1-2"), 1))
	wantProve(t, b, "a-1", api.OK)
	wantProved(t, b, "a-1")
	wantLatest(t, b, "a", "a-12", "a-1")
	wantLatest(t, b, "a-1", "a-1-2", "")
	wantProve(t, b, "a-1-2", api.OK)
	wantLatest(t, b, "a", "a-12", "a-1")
	wantLatest(t, b, "a-1", "a-1-2", "a-1-2")
	wantLatest(t, b, "a-1-2", "a-1-2-1", "")
}

func TestP1201Prove(t *testing.T) {
	b := stamped(t, "web", 1, 2, 3)
	wantStamp(t, b, sound("wob"), 2, "wob-2", true)
	wantProve(t, b, "web-4", api.ErrNone)
	wantProve(t, b, "web-2", api.OK)
	wantProved(t, b, "web-2")
	wantProve(t, b, "web-2", api.OK) // again: it stays as it is
	wantProved(t, b, "web-2")
	wantProve(t, b, "web-1", api.OK)
	wantProved(t, b, "web-1", "web-2")
	wantStamp(t, b, sound("web"), 4, "web-4", true) // that it was asked for ahead does not count
	wantProved(t, b, "web-1", "web-2")
	wantProve(t, b, "wob-2", api.OK)
	wantProved(t, b, "web-1", "web-2", "wob-2")
	wantGet(t, b, "web-2", of(sound("web"), 2))
	wantAll(t, b, "web-1", "web-2", "web-3", "web-4", "wob-2")
}

// orders calls f with each order of the list.
func orders(l []int, f func([]int)) {
	if len(l) < 2 {
		f(l)
		return
	}
	for i := range l {
		rest := slices.Delete(slices.Clone(l), i, i+1)
		orders(rest, func(tail []int) { f(append([]int{l[i]}, tail...)) })
	}
}

// The greatest by number, neither by bytes nor the one that was stamped, or proved,
// last.
func TestP1201LatestInEveryOrder(t *testing.T) {
	gens := []int{1, 9, 10, 100}
	orders(gens, func(made []int) {
		orders(gens, func(proved []int) {
			b := New()
			top, ready := 0, 0
			name := func(gen int) string {
				if gen == 0 {
					return ""
				}
				return "web-" + strconv.Itoa(gen)
			}
			for _, gen := range made {
				wantStamp(t, b, sound("web"), gen, name(gen), true)
				top = max(top, gen)
				wantLatest(t, b, "web", name(top), "")
			}
			for _, gen := range proved {
				wantProve(t, b, name(gen), api.OK)
				ready = max(ready, gen)
				wantLatest(t, b, "web", name(top), name(ready))
			}
		})
	})
}

func TestP1201LatestAsTheyCome(t *testing.T) {
	b := stamped(t, "web", 5)
	wantProve(t, b, "web-5", api.OK)
	wantLatest(t, b, "web", "web-5", "web-5")
	wantStamp(t, b, sound("web"), 999999, "web-999999", true)
	wantLatest(t, b, "web", "web-999999", "web-5")
	wantStamp(t, b, sound("web"), 4, "web-4", true)
	wantProve(t, b, "web-4", api.OK)
	wantLatest(t, b, "web", "web-999999", "web-5")
	wantProve(t, b, "web-999999", api.OK)
	wantLatest(t, b, "web", "web-999999", "web-999999")
}

func TestP1201LatestOfOneConfigurationAlone(t *testing.T) {
	b := stamped(t, "web", 3)
	wantStamp(t, b, sound("we"), 7, "we-7", true)
	wantStamp(t, b, sound("webb"), 1, "webb-1", true)
	wantProve(t, b, "webb-1", api.OK)
	wantLatest(t, b, "web", "web-3", "")
	wantLatest(t, b, "we", "we-7", "")
	wantLatest(t, b, "webb", "webb-1", "webb-1")
	for _, s := range append(texts(), "wob", "web-3", "web-") {
		if s != "we" && s != "webb" {
			wantLatest(t, b, s, "", "")
		}
	}
}

func TestP1201AllByNames(t *testing.T) {
	// In rising order of bytes: - is ahead of 0 to 9, these ahead of a to z.
	sorted := []string{"a--a-1", "a-1", "a-1-1", "a-10", "a-100", "a-11", "a-2", "a-999999", "a-a-1", "a0-1", "a10-3", "a2-1", "aa-1", "b-1", "web-1-1", "web-10", "web-9", "zz-1"}
	d := rand.New(rand.NewSource(1))
	for range 20 {
		b := New()
		for _, i := range d.Perm(len(sorted)) {
			at := strings.LastIndex(sorted[i], "-")
			gen, _ := strconv.Atoi(sorted[i][at+1:])
			wantStamp(t, b, sound(sorted[i][:at]), gen, sorted[i], true)
			if i%2 == 0 { // proved or not, all are told
				wantProve(t, b, sorted[i], api.OK)
			}
		}
		wantAll(t, b, sorted...)
	}
}

// P1202: whatever comes behind it.
func TestP1202StaysAsItWas(t *testing.T) {
	b := New()
	var was []api.Revision
	for gen := 1; gen <= 300; gen++ {
		c := others("web")[gen%5]
		if gen%3 == 0 {
			c = others("a-1")[gen%5]
		}
		was = append(was, of(c, gen))
		wantStamp(t, b, c, gen, was[gen-1].Name, true)
		for _, r := range was {
			again := r.Of
			again.Image = gen % 7
			wantStamp(t, b, again, r.Gen, r.Name, false)
			wantGet(t, b, r.Name, r)
		}
		wantProve(t, b, was[gen/2].Name, api.OK)
	}
	for _, r := range was {
		wantProve(t, b, r.Name, api.OK)
		wantGet(t, b, r.Name, r)
	}
}

// log is the chapter in another form: all that was stamped and that was proved, in
// the order in which that was, of which each answer is reckoned anew.
type log struct {
	made   []api.Revision
	proved []string
}

func (l *log) Stamp(c api.Config, gen int) (rev string, is bool) {
	r := of(c, gen)
	if _, twice := l.Get(r.Name); twice {
		return r.Name, false
	}
	l.made = append(l.made, r)
	return r.Name, true
}

func (l *log) Get(rev string) (api.Revision, bool) {
	for _, r := range l.made {
		if r.Name == rev {
			return r, true
		}
	}
	return api.Revision{}, false
}

func (l *log) Prove(rev string) api.Errno {
	if _, is := l.Get(rev); !is {
		return api.ErrNone
	}
	l.proved = append(l.proved, rev)
	return api.OK
}

func (l *log) Proved(rev string) bool { return slices.Contains(l.proved, rev) }

func (l *log) Latest(config string) (made, ready string) {
	var m, p int
	for _, r := range l.made {
		if r.Of.Name != config {
			continue
		}
		if r.Gen > m {
			made, m = r.Name, r.Gen
		}
		if r.Gen > p && l.Proved(r.Name) {
			ready, p = r.Name, r.Gen
		}
	}
	return made, ready
}

func (l *log) All() (revs []string) {
	for _, r := range l.made {
		revs = append(revs, r.Name)
	}
	slices.Sort(revs)
	return revs
}

// step is a call that changes a book: Stamp of c at gen, or Prove of rev, if that is
// not empty; told is what it tells.
type step struct {
	c   api.Config
	gen int
	rev string
}

type told struct {
	rev string
	is  bool
	e   api.Errno
}

func do(b calls, x step) (a told) {
	if x.rev != "" {
		a.e = b.Prove(x.rev)
		return a
	}
	a.rev, a.is = b.Stamp(x.c, x.gen)
	return a
}

// alike holds all that a book tells of these names against what another one does.
func alike(t *testing.T, b, l calls, configs, revs []string) {
	t.Helper()
	wantAll(t, b, l.All()...)
	for _, rev := range append(revs, l.All()...) {
		r, _ := l.Get(rev)
		wantGet(t, b, rev, r)
		if b.Proved(rev) != l.Proved(rev) {
			t.Fatalf("P1201: Proved(%q) = %v", rev, b.Proved(rev))
		}
	}
	for _, config := range configs {
		made, ready := l.Latest(config)
		wantLatest(t, b, config, made, ready)
	}
}

// both makes a step in each, and holds what they tell against each other.
func both(t *testing.T, b, l calls, x step) told {
	t.Helper()
	got, want := do(b, x), do(l, x)
	if got != want {
		t.Fatalf("P1201: %+v: %+v, want %+v", x, got, want)
	}
	return got
}

// Every order of a few calls.
func TestEveryOrder(t *testing.T) {
	steps := []step{
		{c: sound("a"), gen: 9}, {c: others("a")[0], gen: 9}, {c: sound("a"), gen: 10}, {c: sound("a-9"), gen: 1},
		{rev: "a-9"}, {rev: "a-10"}, {rev: "a-9-1"}, {rev: "a"},
	}
	const deep, all = 5, 8 * 8 * 8 * 8 * 8
	for code := range all {
		b, l := New(), &log{}
		for range deep {
			both(t, b, l, steps[code%len(steps)])
			code /= len(steps)
		}
		alike(t, b, l, []string{"a", "a-9", "b"}, []string{"a-9", "a-10", "a-9-1", "a", "b-9"})
	}
}

func configs() []string { return []string{"web", "a", "a-1", "a-1-1", "zz"} }

// some is any step, of few things, so that these are often alike.
func some(d *rand.Rand) step {
	x := step{gen: []int{1, 2, 9, 10, 11, 100, 999999}[d.Intn(7)]}
	x.c = append(others("a"), sound("a"))[d.Intn(6)]
	x.c.Name = configs()[d.Intn(len(configs()))]
	if d.Intn(2) == 0 {
		x.rev = of(x.c, x.gen).Name
	}
	return x
}

func TestByAnotherForm(t *testing.T) {
	d := rand.New(rand.NewSource(12))
	tells := map[told]int{}
	for range 200 {
		b, l := New(), &log{}
		for range 60 {
			got := both(t, b, l, some(d))
			got.rev = ""
			tells[got]++
			alike(t, b, l, configs(), []string{"web-3", "a-1", "a-1-1", "zz-999998"})
		}
	}
	for _, x := range []told{{is: true}, {}, {e: api.ErrNone}} {
		if tells[x] == 0 {
			t.Errorf("P1201: %+v was not tried", x)
		}
	}
}

func TestP1201Many(t *testing.T) {
	const most, many, first = 999999, 100000, 900000
	b := New()
	for i := range many {
		gen := most - i // falling, so that the first one is the latest
		wantStamp(t, b, sound("web"), gen, "web-"+strconv.Itoa(gen), true)
		wantLatest(t, b, "web", "web-999999", "")
	}
	if l := b.All(); len(l) != many || !slices.IsSorted(l) {
		t.Fatalf("P1201: %d of them", len(l))
	}
	for gen := first; gen <= most; gen += 1000 {
		ready := "web-" + strconv.Itoa(gen)
		wantProve(t, b, ready, api.OK)
		wantLatest(t, b, "web", "web-999999", ready)
	}
	wantStamp(t, b, sound("web"), first, "web-900000", false)
}

// P1: every call ends, and nothing panics, whatever it is given, nor of a book that
// New did not make.
func TestP1Any(t *testing.T) {
	for _, b := range []*Book{New(), {}} {
		wantEmpty(t, b)
		for _, s := range append(texts(), "web") {
			for _, n := range numbers() {
				b.Stamp(api.Config{Name: s, Image: n, Conc: n, Min: n, Max: n, Grace: n}, n)
				b.Stamp(sound(s), n)
				b.Latest(s)
				b.Get(s)
				b.Prove(s)
				b.Proved(s)
				b.Get(s + "-" + strconv.Itoa(n))
				b.Prove(s + "-" + strconv.Itoa(n))
				b.Proved(s + "-" + strconv.Itoa(n))
			}
		}
		b.All()
	}
	b := &Book{}
	wantStamp(t, b, sound("web"), 1, "web-1", true)
	wantProve(t, b, "web-1", api.OK)
	wantLatest(t, b, "web", "web-1", "web-1")
	wantAll(t, b, "web-1")
}

var nameForm = regexp.MustCompile(`\A[a-z](?:[a-z0-9-]{0,14}[a-z0-9])?\z`)

// P9: what may not be is refused, not clamped: nothing is told, and there is nothing
// that was not there.
func TestP9StampOfWhatMayNotBe(t *testing.T) {
	b := stamped(t, "web", 1, 2, 999999)
	refused := func(c api.Config, gen int) {
		t.Helper()
		wantStamp(t, b, c, gen, "", false)
		wantAll(t, b, "web-1", "web-2", "web-999999")
		wantLatest(t, b, c.Name, map[bool]string{true: "web-999999"}[c.Name == "web"], "")
	}
	for _, n := range numbers() {
		if n < 1 || n > 999999 {
			refused(sound("web"), n)
			refused(sound("wob"), n)
		}
		for field := range 5 {
			c := sound("web")
			*[]*int{&c.Image, &c.Conc, &c.Min, &c.Max, &c.Grace}[field] = n
			if spec.Config(c) != api.OK {
				refused(c, 7)
				refused(c, 1) // of one that is there, too
			}
		}
	}
	for _, s := range texts() {
		if !nameForm.MatchString(s) {
			refused(sound(s), 1)
		}
	}
	refused(api.Config{}, 0)
	refused(api.Config{}, 1)
	wantNone(t, b, texts()...)
	wantStamp(t, b, sound("web"), 7, "web-7", true) // what was refused is not there
}

// bytesOf is a text whose bytes can be changed behind its back.
func bytesOf(s string) (string, []byte) {
	b := []byte(s)
	return unsafe.String(&b[0], len(b)), b
}

func TestP2TextsAreNotKept(t *testing.T) {
	b := New()
	name, nameBytes := bytesOf("web")
	rev, revBytes := bytesOf("web-1")
	wantStamp(t, b, sound(name), 1, "web-1", true)
	wantProve(t, b, rev, api.OK)
	wantGet(t, b, rev, of(sound("web"), 1))
	wantLatest(t, b, name, "web-1", "web-1")
	clear(nameBytes)
	clear(revBytes)
	wantGet(t, b, "web-1", of(sound("web"), 1))
	wantProved(t, b, "web-1")
	wantLatest(t, b, "web", "web-1", "web-1")
	wantAll(t, b, "web-1")
	wantStamp(t, b, sound("web"), 1, "web-1", false)
}

func TestP2TextsOfAnswersAreNew(t *testing.T) {
	b := New()
	given, rev := "web", "web-1"
	told, _ := b.Stamp(sound(given), 1)
	b.Prove(rev)
	texts := []string{given, rev, told}
	for range 2 {
		r, _ := b.Get(rev)
		made, ready := b.Latest(given)
		again, _ := b.Stamp(sound(given), 1)
		texts = append(texts, r.Name, r.Of.Name, made, ready, again, b.All()[0])
	}
	for i, s := range texts {
		for j, other := range texts[:i] {
			if unsafe.StringData(s) == unsafe.StringData(other) {
				t.Errorf("P2: %q (%d) and %q (%d) are one text", s, i, other, j)
			}
		}
	}
}

func TestP2AllIsNew(t *testing.T) {
	b := stamped(t, "web", 1, 2, 3)
	l, m := b.All(), b.All()
	for i := range l[:cap(l)] {
		l[:cap(l)][i] = "spoilt"
	}
	if !slices.Equal(m, []string{"web-1", "web-2", "web-3"}) {
		t.Errorf("P2: %q shares its names with another answer", m)
	}
	wantAll(t, b, "web-1", "web-2", "web-3")
	wantStamp(t, b, sound("web"), 4, "web-4", true)
	if !slices.Equal(m, []string{"web-1", "web-2", "web-3"}) { // it stays, though the book goes on
		t.Errorf("P2: %q", m)
	}
}

// P3: the same again, however a map is gone through; and to ask changes nothing.
func TestP3TheSameAgain(t *testing.T) {
	for seed := range int64(20) {
		first, d := New(), rand.New(rand.NewSource(seed))
		var steps []step
		var tells []told
		for range 100 {
			x := some(d)
			steps, tells = append(steps, x), append(tells, do(first, x))
		}
		for range 5 {
			b := New()
			for i, x := range steps {
				for _, s := range append(configs(), b.All()...) {
					b.Get(s)
					b.Proved(s)
					b.Latest(s)
				}
				if got := do(b, x); got != tells[i] {
					t.Fatalf("P3: %+v: %+v, and ahead %+v", x, got, tells[i])
				}
			}
			alike(t, b, first, configs(), nil)
		}
	}
}

// P5: a book that has refused much tells what one tells that was not asked.
func TestP5RefusedChangesNothing(t *testing.T) {
	d := rand.New(rand.NewSource(5))
	for range 100 {
		b, plain := New(), New()
		for range 100 {
			x := some(d)
			got := do(b, x)
			if x.rev != "" && got.e != api.OK || x.rev == "" && !got.is {
				continue
			}
			if want := do(plain, x); got != want {
				t.Fatalf("P5: %+v: %+v, and of the other one %+v", x, got, want)
			}
			alike(t, b, plain, configs(), []string{"web-3", "a-1"})
		}
		alike(t, b, plain, configs(), []string{"web-3", "a-1"})
	}
}

func TestP7BooksSideBySide(t *testing.T) {
	one, two := New(), New()
	if one == two {
		t.Fatal("P7: one book is answered twice")
	}
	wantStamp(t, one, sound("web"), 2, "web-2", true)
	wantEmpty(t, two)
	wantStamp(t, two, others("web")[0], 2, "web-2", true) // of one book alone is it there
	wantProve(t, two, "web-2", api.OK)
	wantProved(t, one)
	wantLatest(t, one, "web", "web-2", "")
	wantGet(t, one, "web-2", of(sound("web"), 2))
	wantGet(t, two, "web-2", of(others("web")[0], 2))
	wantStamp(t, one, sound("web"), 3, "web-3", true)
	wantLatest(t, two, "web", "web-2", "web-2")
	wantAll(t, two, "web-2")
}
