package shelf

import (
	"math"
	"math/rand"
	"reflect"
	"slices"
	"strconv"
	"strings"
	"testing"
	"unsafe"

	"damper/api"
)

func soundConfig(name string) api.Config {
	return api.Config{Name: name, Image: 7, Conc: 2, Min: 1, Max: 3, Grace: 4}
}

func soundRoute(name string) api.Route {
	return api.Route{Name: name, Config: "web", Roll: 5, Targets: []api.Target{
		{Rev: "web-1", Tag: "old", Percent: 30}, {Percent: 50}, {Rev: "web-2", Tag: "new", Percent: 20},
	}}
}

// otherConfigs are such as differ from soundConfig in one thing each.
func otherConfigs(name string) []api.Config {
	l := []api.Config{}
	for range 5 {
		l = append(l, soundConfig(name))
	}
	l[0].Image, l[1].Conc, l[2].Min, l[3].Max, l[4].Grace = 8, 3, 0, 4, 5
	return l
}

// numbers are kinds and versions that may be anything.
func numbers() []int {
	return []int{math.MinInt, math.MinInt32, -2, -1, 0, 1, 2, 3, 4, 255, math.MaxInt32, 1<<32 + 1, 1<<32 + 2, math.MaxInt}
}

// texts are names that may be anything; "web" is none of them.
func texts() []string {
	return []string{"", "-", "a", "web-", "we", "webb", "WEB", "web ", "web\x00", "\xff", "é", "web-1", strings.Repeat("a", 17), strings.Repeat("a", 1<<16)}
}

func checkPut(t *testing.T, now int, e api.Errno, want int, no api.Errno) {
	t.Helper()
	if now != want || e != no {
		t.Fatalf("P401: Put: %d, %v, want %d, %v", now, e, want, no)
	}
}

func putConfig(t *testing.T, s *Shelf, c api.Config, version, want int, no api.Errno) {
	t.Helper()
	now, e := s.PutConfig(c, version)
	checkPut(t, now, e, want, no)
}

func putRoute(t *testing.T, s *Shelf, r api.Route, version, want int, no api.Errno) {
	t.Helper()
	now, e := s.PutRoute(r, version)
	checkPut(t, now, e, want, no)
}

func drop(t *testing.T, s *Shelf, kind int, name string, version int, want api.Errno) {
	t.Helper()
	if e := s.Drop(kind, name, version); e != want {
		t.Fatalf("P401: Drop(%d, %.40q, %d) = %v, want %v", kind, name, version, e, want)
	}
}

func checkConfig(t *testing.T, s *Shelf, name string, c api.Config, version, gen int) {
	t.Helper()
	got, v, g, is := s.Config(name)
	if got != c || v != version || g != gen || is != (version > 0) {
		t.Fatalf("P401: Config(%.40q) = %+v, %d, %d, %v, want %+v, %d, %d", name, got, v, g, is, c, version, gen)
	}
}

func checkRoute(t *testing.T, s *Shelf, name string, r api.Route, version int) {
	t.Helper()
	got, v, is := s.Route(name)
	if !reflect.DeepEqual(got, r) || v != version || is != (version > 0) {
		t.Fatalf("P401: Route(%.40q) = %+v, %d, %v, want %+v, %d", name, got, v, is, r, version)
	}
}

func checkNames(t *testing.T, s *Shelf, kind int, want ...string) {
	t.Helper()
	if got := s.Names(kind); !slices.Equal(got, want) {
		t.Fatalf("P401: Names(%d) = %q, want %q", kind, got, want)
	}
}

// checkEmpty holds of a shelf on which there is nothing.
func checkEmpty(t *testing.T, s *Shelf) {
	t.Helper()
	for _, kind := range numbers() {
		checkNames(t, s, kind)
	}
	for _, name := range append(texts(), "web") {
		checkConfig(t, s, name, api.Config{}, 0, 0)
		checkRoute(t, s, name, api.Route{}, 0)
	}
}

func TestP401New(t *testing.T) {
	checkEmpty(t, New())
	s := New()
	for _, version := range numbers() {
		drop(t, s, 1, "web", version, api.ErrNone)
		drop(t, s, 2, "web", version, api.ErrNone)
		if version != 0 {
			putConfig(t, s, soundConfig("web"), version, 0, api.ErrNone)
			putRoute(t, s, soundRoute("web"), version, 0, api.ErrNone)
		}
	}
	checkEmpty(t, s)
	putConfig(t, s, soundConfig("web"), 0, 1, api.OK) // what was refused has not counted
}

func TestP401EachOKCountsOne(t *testing.T) {
	s := New()
	putConfig(t, s, soundConfig("web"), 0, 1, api.OK)
	putRoute(t, s, soundRoute("front"), 0, 2, api.OK)
	putConfig(t, s, soundConfig("api"), 0, 3, api.OK)
	drop(t, s, 1, "api", 3, api.OK) // 4
	putRoute(t, s, soundRoute("front"), 2, 5, api.OK)
	putConfig(t, s, soundConfig("web"), 1, 6, api.OK)
	drop(t, s, 2, "front", 5, api.OK) // 7
	putRoute(t, s, soundRoute("front"), 0, 8, api.OK)
	checkConfig(t, s, "web", soundConfig("web"), 6, 1)
	checkConfig(t, s, "api", api.Config{}, 0, 0)
	checkRoute(t, s, "front", soundRoute("front"), 8)
	checkNames(t, s, 1, "web")
	checkNames(t, s, 2, "front")
}

func TestP401AnObjectsVersionIsItsOwn(t *testing.T) {
	s := New()
	putConfig(t, s, soundConfig("a"), 0, 1, api.OK)
	putConfig(t, s, soundConfig("b"), 0, 2, api.OK)
	putRoute(t, s, soundRoute("c"), 0, 3, api.OK)
	checkConfig(t, s, "a", soundConfig("a"), 1, 1) // others' turns do not change it
	checkConfig(t, s, "b", soundConfig("b"), 2, 1)
	putConfig(t, s, soundConfig("a"), 2, 0, api.ErrStale) // another one's version
	putConfig(t, s, soundConfig("b"), 3, 0, api.ErrStale)
	putRoute(t, s, soundRoute("c"), 1, 0, api.ErrStale)
	putConfig(t, s, soundConfig("c"), 3, 0, api.ErrNone) // a route's is no configuration's
	putRoute(t, s, soundRoute("a"), 1, 0, api.ErrNone)
}

func TestP401TheTwoKindsDoNotTouch(t *testing.T) {
	s := New()
	putConfig(t, s, soundConfig("same"), 0, 1, api.OK)
	putRoute(t, s, soundRoute("same"), 0, 2, api.OK)
	drop(t, s, 1, "same", 2, api.ErrStale)
	drop(t, s, 2, "same", 1, api.ErrStale)
	drop(t, s, 1, "same", 1, api.OK)
	checkRoute(t, s, "same", soundRoute("same"), 2)
	checkConfig(t, s, "same", api.Config{}, 0, 0)
	putConfig(t, s, soundConfig("same"), 0, 4, api.OK)
	drop(t, s, 2, "same", 2, api.OK)
	checkConfig(t, s, "same", soundConfig("same"), 4, 2) // the route's turns do not count as its own
	checkRoute(t, s, "same", api.Route{}, 0)
}

func TestP401PutVersions(t *testing.T) {
	s := New()
	putConfig(t, s, soundConfig("web"), 0, 1, api.OK)
	putRoute(t, s, soundRoute("web"), 0, 2, api.OK)
	putConfig(t, s, soundConfig("web"), 0, 0, api.ErrTwice)
	putRoute(t, s, soundRoute("web"), 0, 0, api.ErrTwice)
	for _, version := range numbers() {
		if version != 0 && version != 1 {
			putConfig(t, s, soundConfig("web"), version, 0, api.ErrStale)
		}
		if version != 0 && version != 2 {
			putRoute(t, s, soundRoute("web"), version, 0, api.ErrStale)
		}
		if version != 0 {
			putConfig(t, s, soundConfig("wob"), version, 0, api.ErrNone)
			putRoute(t, s, soundRoute("wob"), version, 0, api.ErrNone)
		}
	}
	checkNames(t, s, 1, "web")
	checkNames(t, s, 2, "web")
	putConfig(t, s, soundConfig("web"), 1, 3, api.OK)
	putRoute(t, s, soundRoute("web"), 2, 4, api.OK)
}

func TestP401DropVersions(t *testing.T) {
	s := New()
	putConfig(t, s, soundConfig("web"), 0, 1, api.OK)
	putRoute(t, s, soundRoute("web"), 0, 2, api.OK)
	for _, kind := range numbers() {
		for _, version := range numbers() {
			if kind != 1 && kind != 2 {
				drop(t, s, kind, "web", version, api.ErrKind)
				drop(t, s, kind, "wob", version, api.ErrKind) // ahead of ErrNone
				continue
			}
			if version != kind { // the versions are as the kinds here; 0 is none of them
				drop(t, s, kind, "web", version, api.ErrStale)
			}
			for _, name := range texts() {
				drop(t, s, kind, name, version, api.ErrNone)
			}
		}
	}
	drop(t, s, 1, "web", 1, api.OK)
	drop(t, s, 1, "web", 1, api.ErrNone)
	checkNames(t, s, 1)
	checkNames(t, s, 2, "web")
	drop(t, s, 2, "web", 2, api.OK)
	drop(t, s, 2, "web", 2, api.ErrNone)
	checkEmpty(t, s)
	putConfig(t, s, soundConfig("web"), 1, 0, api.ErrNone) // by the version that it had
	putRoute(t, s, soundRoute("web"), 0, 5, api.OK)
}

func TestP401SpecsErrorsConfig(t *testing.T) {
	bad := map[api.Errno][]api.Config{api.ErrName: {{}}, api.ErrArg: {{Name: "web"}, {Name: "new"}}}
	for _, name := range texts() {
		if name != "a" && name != "we" && name != "webb" && name != "web-1" {
			bad[api.ErrName] = append(bad[api.ErrName], soundConfig(name))
		}
	}
	for _, n := range []int{-1, 256, math.MaxInt} {
		for field := range 5 {
			c := soundConfig("web")
			*[]*int{&c.Image, &c.Conc, &c.Min, &c.Max, &c.Grace}[field] = n
			bad[api.ErrArg] = append(bad[api.ErrArg], c)
		}
	}
	s := New()
	putConfig(t, s, soundConfig("web"), 0, 1, api.OK)
	for want, l := range bad {
		for _, c := range l {
			for _, version := range numbers() { // ahead of what the version may be
				putConfig(t, s, c, version, 0, want)
			}
		}
	}
	checkConfig(t, s, "web", soundConfig("web"), 1, 1)
	checkNames(t, s, 1, "web")
}

func TestP401SpecsErrorsRoute(t *testing.T) {
	of := func(l ...api.Target) api.Route {
		r := soundRoute("web")
		r.Targets = l
		return r
	}
	rolled, named := soundRoute("web"), soundRoute("web")
	rolled.Roll, named.Config = 61, ""
	s := New()
	putRoute(t, s, soundRoute("web"), 0, 1, api.OK)
	for want, l := range map[api.Errno][]api.Route{
		api.ErrName:  {{}, soundRoute("Web"), named, of(api.Target{Rev: "web", Percent: 100}), of(api.Target{Tag: "abcdefghi", Percent: 100})},
		api.ErrArg:   {rolled, of(api.Target{Percent: 101})},
		api.ErrLong:  {of(), of(make([]api.Target, 7)...), of(make([]api.Target, 1<<16)...)},
		api.ErrTwice: {of(api.Target{Tag: "a", Percent: 50}, api.Target{Tag: "a", Percent: 50})},
		api.ErrSum:   {of(api.Target{Percent: 99})},
	} {
		for _, r := range l {
			for _, version := range numbers() {
				putRoute(t, s, r, version, 0, want)
			}
		}
	}
	checkRoute(t, s, "web", soundRoute("web"), 1)
	checkNames(t, s, 2, "web")
}

func TestP401GenOfWhatIsPutOtherwise(t *testing.T) {
	s := New()
	putConfig(t, s, soundConfig("web"), 0, 1, api.OK)
	version, gen := 1, 1
	put := func(c api.Config, more int) {
		t.Helper()
		putConfig(t, s, c, version, version+1, api.OK)
		version, gen = version+1, gen+more
		checkConfig(t, s, "web", c, version, gen)
	}
	put(soundConfig("web"), 0) // the version goes on, the generation does not
	for _, c := range otherConfigs("web") {
		put(c, 1) // each thing counts
		put(c, 0)
		put(c, 0)
		put(soundConfig("web"), 1) // back again, too
		put(soundConfig("web"), 0)
	}
}

func TestP401GenIsNotBegunAnew(t *testing.T) {
	s := New()
	version := 0
	for gen := 1; gen < 20; gen++ {
		putConfig(t, s, soundConfig("web"), 0, version+1, api.OK) // as it was last, but it was not there
		checkConfig(t, s, "web", soundConfig("web"), version+1, gen)
		drop(t, s, 1, "web", version+1, api.OK)
		checkConfig(t, s, "web", api.Config{}, 0, 0)
		version += 2
	}
	putConfig(t, s, otherConfigs("web")[0], 0, version+1, api.OK) // otherwise, and not there: one more alone
	checkConfig(t, s, "web", otherConfigs("web")[0], version+1, 20)
	putConfig(t, s, soundConfig("wob"), 0, version+2, api.OK) // each name has its own
	checkConfig(t, s, "wob", soundConfig("wob"), version+2, 1)
}

func TestP401GenOfWhatIsRefused(t *testing.T) {
	s := New()
	putConfig(t, s, soundConfig("web"), 0, 1, api.OK)
	other := otherConfigs("web")[0]
	putConfig(t, s, other, 0, 0, api.ErrTwice)
	putConfig(t, s, other, 7, 0, api.ErrStale)
	other.Image = -1
	putConfig(t, s, other, 1, 0, api.ErrArg)
	checkConfig(t, s, "web", soundConfig("web"), 1, 1)
	putConfig(t, s, soundConfig("web"), 1, 2, api.OK) // as it was last: what was refused was not put
	checkConfig(t, s, "web", soundConfig("web"), 2, 1)
	putConfig(t, s, soundConfig("new"), 2, 0, api.ErrNone)
	putConfig(t, s, soundConfig("new"), 0, 3, api.OK)
	checkConfig(t, s, "new", soundConfig("new"), 3, 1) // the first time that is OK
	drop(t, s, 1, "web", 1, api.ErrStale)
	drop(t, s, 2, "web", 2, api.ErrNone)
	putConfig(t, s, soundConfig("web"), 2, 4, api.OK)
	checkConfig(t, s, "web", soundConfig("web"), 4, 1) // a drop that was refused is none
}

func TestP401RouteIsWhatWasPutLast(t *testing.T) {
	s := New()
	putRoute(t, s, soundRoute("front"), 0, 1, api.OK)
	version := 1
	for _, change := range []func(r *api.Route){
		func(r *api.Route) { r.Config = "wob" }, func(r *api.Route) { r.Roll = 0 }, func(r *api.Route) { r.Targets[1].Rev = "web-9" },
		func(r *api.Route) { r.Targets[2].Tag = "" }, func(r *api.Route) { slices.Reverse(r.Targets) },
		func(r *api.Route) { r.Targets[0].Percent, r.Targets[1].Percent = 31, 49 }, func(r *api.Route) { r.Targets = []api.Target{{Percent: 100}} },
		func(r *api.Route) {
			r.Targets = append(r.Targets, api.Target{Tag: "t"}, api.Target{}, api.Target{Rev: "a-1"})
		},
	} {
		r := soundRoute("front")
		change(&r)
		putRoute(t, s, r, version, version+1, api.OK)
		version++
		checkRoute(t, s, "front", r, version)
	}
	checkNames(t, s, 2, "front")
}

func TestP401NamesByNames(t *testing.T) {
	// In rising order of bytes: - is ahead of 0 to 9, these ahead of a to z.
	sorted := []string{"a", "a--a", "a-a", "a0", "a10", "a2", "a9-a", "aa", "ab", "abcdefghijklmnop", "b", "ba", "web", "web-1", "web0", "weba", "z", "zz"}
	d := rand.New(rand.NewSource(1))
	for range 20 {
		s := New()
		for _, i := range d.Perm(len(sorted)) {
			if _, e := s.PutConfig(soundConfig(sorted[i]), 0); e != api.OK {
				t.Fatal(e)
			}
		}
		for _, i := range d.Perm(len(sorted)) {
			if _, e := s.PutRoute(soundRoute(sorted[i]), 0); i%2 == 0 && e != api.OK {
				t.Fatal(e)
			}
		}
		for i := 1; i < len(sorted); i += 2 {
			_, version, _ := s.Route(sorted[i])
			drop(t, s, 2, sorted[i], version, api.OK)
		}
		even := []string{}
		for i := 0; i < len(sorted); i += 2 {
			even = append(even, sorted[i])
		}
		checkNames(t, s, 1, sorted...)
		checkNames(t, s, 2, even...)
		for _, kind := range numbers() {
			if kind != 1 && kind != 2 {
				checkNames(t, s, kind) // none of another kind
			}
		}
	}
}

func TestP402OneOfTwoByOneVersion(t *testing.T) {
	for version := range 8 {
		for _, one := range []string{"a", "b"} {
			for _, two := range []string{"a", "b"} {
				s := New()
				putConfig(t, s, soundConfig("a"), 0, 1, api.OK)
				putRoute(t, s, soundRoute("a"), 0, 2, api.OK)
				putConfig(t, s, soundConfig("b"), 0, 3, api.OK)
				putRoute(t, s, soundRoute("b"), 0, 4, api.OK)
				oks := 0
				for _, name := range []string{one, two} {
					if _, e := s.PutConfig(soundConfig(name), version); e == api.OK {
						oks++
					}
					if _, e := s.PutRoute(soundRoute(name), version); e == api.OK {
						oks++
					}
				}
				if oks > 1 {
					t.Errorf("P402: %d were put by version %d", oks, version)
				}
			}
		}
	}
}

// step is a call that was OK, as the log below keeps it.
type step struct {
	kind int
	name string
	put  bool
	c    api.Config
	r    api.Route
}

// log is the chapter in another form: it keeps all calls that were OK, and
// reckons each answer anew from the first of them on.
type log []step

// version is an object's, 0 where there is none.
func (l log) version(kind int, name string) int {
	version := 0
	for i, x := range l {
		if x.kind == kind && x.name == name {
			version = i + 1
			if !x.put {
				version = 0
			}
		}
	}
	return version
}

func (l log) gen(name string) int {
	gen, there, last := 0, false, api.Config{}
	for _, x := range l {
		if x.kind != 1 || x.name != name {
			continue
		}
		if x.put && (!there || x.c != last) {
			gen++
		}
		there, last = x.put, x.c
	}
	return gen
}

// refuses tells the error of a call that spec allows.
func (l log) refuses(x step, version int) api.Errno {
	has := l.version(x.kind, x.name)
	switch {
	case x.put && version == 0 && has > 0:
		return api.ErrTwice
	case x.put && version == 0:
		return api.OK
	case has == 0:
		return api.ErrNone
	case has != version:
		return api.ErrStale
	}
	return api.OK
}

// do calls the shelf and the log, and holds what they answer against each other.
func (l *log) do(t *testing.T, s *Shelf, x step, version int) api.Errno {
	t.Helper()
	want := l.refuses(x, version)
	if want == api.OK {
		*l = append(*l, x)
	}
	now := 0
	if want == api.OK {
		now = len(*l)
	}
	switch {
	case !x.put:
		drop(t, s, x.kind, x.name, version, want)
	case x.kind == 1:
		putConfig(t, s, x.c, version, now, want)
	default:
		putRoute(t, s, x.r, version, now, want)
	}
	return want
}

// check holds all that the shelf tells of these names against the log.
func (l log) check(t *testing.T, s *Shelf, names []string) {
	t.Helper()
	var there [3][]string
	for _, name := range names {
		c, r, gen := api.Config{}, api.Route{}, 0
		if v := l.version(1, name); v > 0 {
			c, gen = l[v-1].c, l.gen(name)
			there[1] = append(there[1], name)
		}
		if v := l.version(2, name); v > 0 {
			r = l[v-1].r
			there[2] = append(there[2], name)
		}
		checkConfig(t, s, name, c, l.version(1, name), gen)
		checkRoute(t, s, name, r, l.version(2, name))
	}
	for kind := range 3 {
		slices.Sort(there[kind])
		checkNames(t, s, kind, there[kind]...)
	}
}

// some is any step that spec allows, of few things, so that these are often alike.
func some(d *rand.Rand, names []string) step {
	x := step{kind: 1 + d.Intn(2), name: names[d.Intn(len(names))], put: d.Intn(4) > 0}
	if x.put && x.kind == 1 {
		x.c = soundConfig(x.name)
		x.c.Grace = d.Intn(3)
	}
	if x.put && x.kind == 2 {
		x.r = soundRoute(x.name)
		x.r.Roll = d.Intn(3)
		x.r.Targets = x.r.Targets[:2]
		x.r.Targets[0].Percent = d.Intn(101)
		x.r.Targets[1].Percent = 100 - x.r.Targets[0].Percent
	}
	return x
}

func TestP401ByAnotherForm(t *testing.T) {
	d := rand.New(rand.NewSource(2))
	names := []string{"web", "a", "a-1", "zz"}
	told := map[api.Errno]int{}
	for range 300 {
		s, l := New(), log{}
		for range 60 {
			x := some(d, names)
			version := []int{0, l.version(x.kind, x.name), l.version(x.kind, x.name), len(l), d.Intn(len(l) + 2), -1}[d.Intn(6)]
			told[l.do(t, s, x, version)]++
			l.check(t, s, names)
		}
	}
	for _, e := range []api.Errno{api.OK, api.ErrTwice, api.ErrNone, api.ErrStale} {
		if told[e] == 0 {
			t.Errorf("P401: %v was not tried", e)
		}
	}
}

// Every order of a few calls, each by the version that is right, or by 0.
func TestP401EveryOrder(t *testing.T) {
	one, two := step{kind: 1, name: "a", put: true, c: soundConfig("a")}, step{kind: 1, name: "a", put: true, c: otherConfigs("a")[4]}
	steps := []step{one, two, {kind: 1, name: "a"}, {kind: 2, name: "a", put: true, r: soundRoute("a")}, {kind: 2, name: "a"}}
	const deep = 6
	for code := range 5 * 5 * 5 * 5 * 5 * 5 {
		s, l := New(), log{}
		for range deep {
			x := steps[code%5]
			code /= 5
			l.do(t, s, x, l.version(x.kind, x.name))
			l.do(t, s, x, 0)
		}
		l.check(t, s, []string{"a"})
	}
}

func TestP401Many(t *testing.T) {
	s := New()
	const many = 20000
	for i := range many {
		putConfig(t, s, soundConfig("c"+strconv.Itoa(i)), 0, i+1, api.OK)
	}
	l := s.Names(1)
	if len(l) != many || !slices.IsSorted(l) {
		t.Fatalf("P401: %d names", len(l))
	}
	for i := range many {
		drop(t, s, 1, "c"+strconv.Itoa(i), i+1, api.OK)
	}
	checkNames(t, s, 1)
}

// P1: nothing panics, whatever it is given; nor on a shelf that New did not make.
func TestP1Any(t *testing.T) {
	for _, s := range []*Shelf{New(), {}} {
		for _, n := range numbers() {
			for _, name := range texts() {
				s.Drop(n, name, n)
				s.Config(name)
				s.Route(name)
				s.Names(n)
				s.PutConfig(api.Config{Name: name, Image: n, Conc: n, Min: n, Max: n, Grace: n}, n)
				s.PutRoute(api.Route{Name: name, Config: name, Roll: n, Targets: []api.Target{{Rev: name, Tag: name, Percent: n}}}, n)
			}
		}
	}
	s := &Shelf{}
	checkEmpty(t, s)
	putRoute(t, s, soundRoute("front"), 0, 1, api.OK)
	putConfig(t, s, soundConfig("web"), 0, 2, api.OK)
	checkConfig(t, s, "web", soundConfig("web"), 2, 1)
}

func TestP2WhatIsPutIsNotKept(t *testing.T) {
	s := New()
	room := append(soundRoute("front").Targets, api.Target{Rev: "spare-1", Percent: 3})
	was := slices.Clone(room)
	r := soundRoute("front")
	r.Targets = room[:3]
	putRoute(t, s, r, 0, 1, api.OK)
	if !slices.Equal(room, was) {
		t.Errorf("P2: %+v, was %+v", room, was)
	}
	clear(room)
	checkRoute(t, s, "front", soundRoute("front"), 1)
	putRoute(t, s, r, 1, 0, api.ErrSum) // what is refused is not changed either
	if !slices.Equal(room, make([]api.Target, 4)) {
		t.Errorf("P2: %+v", room)
	}
}

// bytesOf is a text whose bytes can be changed behind its back.
func bytesOf(s string) (string, []byte) {
	b := []byte(s)
	return unsafe.String(&b[0], len(b)), b
}

func TestP2TextsAreNotKept(t *testing.T) {
	s := New()
	name, nameBytes := bytesOf("web")
	rev, revBytes := bytesOf("web-7")
	tag, tagBytes := bytesOf("tag")
	of, ofBytes := bytesOf("wob")
	putConfig(t, s, soundConfig(name), 0, 1, api.OK)
	r := api.Route{Name: name, Config: of, Targets: []api.Target{{Rev: rev, Tag: tag, Percent: 100}}}
	putRoute(t, s, r, 0, 2, api.OK)
	for _, b := range [][]byte{nameBytes, revBytes, tagBytes, ofBytes} {
		clear(b)
	}
	checkConfig(t, s, "web", soundConfig("web"), 1, 1)
	checkRoute(t, s, "web", api.Route{Name: "web", Config: "wob", Targets: []api.Target{{Rev: "web-7", Tag: "tag", Percent: 100}}}, 2)
	checkNames(t, s, 1, "web")
	checkNames(t, s, 2, "web")
	putConfig(t, s, soundConfig("web"), 1, 3, api.OK) // its generation's name was not kept either
	checkConfig(t, s, "web", soundConfig("web"), 3, 1)
}

// spoil writes over a list of Targets, its spare room too.
func spoil(l []api.Target) {
	for i := range l[:cap(l)] {
		l[:cap(l)][i] = api.Target{Rev: "spoilt-1", Tag: "spoilt", Percent: 1}
	}
}

func TestP2AnswersAreNew(t *testing.T) {
	s := New()
	for i, name := range []string{"b", "a", "c"} {
		putConfig(t, s, soundConfig(name), 0, 2*i+1, api.OK)
		putRoute(t, s, soundRoute(name), 0, 2*i+2, api.OK)
	}
	one, _, _ := s.Route("b")
	two, _, _ := s.Route("b")
	spoil(one.Targets)
	if !reflect.DeepEqual(two, soundRoute("b")) {
		t.Errorf("P2: %+v shares its Targets with another answer", two)
	}
	checkRoute(t, s, "b", soundRoute("b"), 2)
	for kind := 1; kind <= 2; kind++ {
		l, m := s.Names(kind), s.Names(kind)
		for i := range l[:cap(l)] {
			l[:cap(l)][i] = "spoilt"
		}
		if !slices.Equal(m, []string{"a", "b", "c"}) {
			t.Errorf("P2: %q shares its names with another answer", m)
		}
		checkNames(t, s, kind, "a", "b", "c")
	}
}

func TestP2TextsOfAnswersAreNew(t *testing.T) {
	s := New()
	putConfig(t, s, soundConfig("web"), 0, 1, api.OK)
	putRoute(t, s, soundRoute("web"), 0, 2, api.OK)
	texts := func() []string {
		c, _, _, _ := s.Config("web")
		r, _, _ := s.Route("web")
		return []string{c.Name, r.Name, r.Config, r.Targets[0].Rev, r.Targets[0].Tag, s.Names(1)[0], s.Names(2)[0]}
	}
	one, two := texts(), texts()
	for i := range one {
		if one[i] != two[i] || unsafe.StringData(one[i]) == unsafe.StringData(two[i]) {
			t.Errorf("P2: %q is answered twice (%d)", one[i], i)
		}
	}
}

func TestP2AnswersStay(t *testing.T) {
	s := New()
	putConfig(t, s, soundConfig("web"), 0, 1, api.OK)
	putRoute(t, s, soundRoute("web"), 0, 2, api.OK)
	names := s.Names(2)
	c, _, _, _ := s.Config("web")
	r, _, _ := s.Route("web")
	other := soundRoute("web")
	other.Targets[0].Percent, other.Targets[1].Percent = 0, 80
	putRoute(t, s, other, 2, 3, api.OK)
	putConfig(t, s, otherConfigs("web")[0], 1, 4, api.OK)
	drop(t, s, 2, "web", 3, api.OK)
	if c != soundConfig("web") || !reflect.DeepEqual(r, soundRoute("web")) || !slices.Equal(names, []string{"web"}) {
		t.Errorf("P2: answers were changed: %+v, %+v, %q", c, r, names)
	}
}

func TestP3TheSameAgain(t *testing.T) {
	names := []string{"web", "a", "b"}
	run := func() (told []api.Errno) {
		d := rand.New(rand.NewSource(3))
		s, l := New(), log{}
		for range 300 {
			told = append(told, l.do(t, s, some(d, names), d.Intn(len(l)+1)))
		}
		l.check(t, s, names)
		l.check(t, s, names) // asking changes nothing
		return told
	}
	if !slices.Equal(run(), run()) {
		t.Error("P3: the same calls answer otherwise")
	}
}

// P5: a shelf that has refused much tells what one tells that was not asked.
func TestP5RefusedChangesNothing(t *testing.T) {
	s, l := New(), log{}
	names := []string{"web", "a"}
	for round := range 6 {
		for _, name := range names {
			x := step{kind: 1, name: name, put: true, c: soundConfig(name)}
			x.c.Grace = round / 2
			l.do(t, s, x, l.version(1, name))
			l.do(t, s, step{kind: 2, name: name, put: true, r: soundRoute(name)}, l.version(2, name))
		}
		for _, name := range append(texts(), names...) {
			for _, version := range []int{-1, len(l) + 1, math.MaxInt} {
				s.PutConfig(otherConfigs(name)[0], version)
				s.PutRoute(api.Route{Name: name, Config: "x", Targets: []api.Target{{Percent: 100}}}, version)
				s.Drop(1, name, version)
				s.Drop(2, name, version)
			}
			s.PutRoute(api.Route{Name: name}, l.version(2, name))
			s.PutConfig(api.Config{Name: name}, l.version(1, name))
			s.Drop(3, name, l.version(1, name))
		}
		l.check(t, s, append(names, "we", "webb", "web-1"))
	}
}

func TestP7ShelvesSideBySide(t *testing.T) {
	one, two := New(), New()
	if one == two {
		t.Fatal("P7: one shelf is answered twice")
	}
	putConfig(t, one, soundConfig("web"), 0, 1, api.OK)
	putConfig(t, one, otherConfigs("web")[0], 1, 2, api.OK)
	checkEmpty(t, two)
	putConfig(t, two, soundConfig("web"), 0, 1, api.OK)
	checkConfig(t, two, "web", soundConfig("web"), 1, 1)
	drop(t, two, 1, "web", 1, api.OK)
	checkConfig(t, one, "web", otherConfigs("web")[0], 2, 2)
	checkEmpty(t, New())
}
