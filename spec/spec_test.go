package spec

import (
	"math"
	"reflect"
	"regexp"
	"slices"
	"strings"
	"testing"

	"damper/api"
)

// The words of W1 once more, in another way than package label's, to hold spec against.
var (
	nameForm = regexp.MustCompile(`\A[a-z](?:[a-z0-9-]{0,14}[a-z0-9])?\z`)
	tagForm  = regexp.MustCompile(`\A(?:[a-z](?:[a-z0-9-]{0,6}[a-z0-9])?)?\z`)                  // or none
	revForm  = regexp.MustCompile(`\A(?:[a-z](?:[a-z0-9-]{0,14}[a-z0-9])?-[1-9][0-9]{0,5})?\z`) // or none
)

// noNames are texts that are no name; no tags either, but for the empty one.
func noNames() []string {
	return []string{
		"", "-", "-a", "a-", "1", "1a", "A", "aB", "a b", "a_b", "a.b", " a", "a ", "a\n", "a\x00", "\xff", "a\xff", "é", "a\u0301",
		"abcdefghijklmnopq", strings.Repeat("a", 1<<16),
	}
}

// numbers are such as lie at and about every bound that the chapter names.
func numbers() []int {
	return []int{
		math.MinInt, math.MinInt + 1, math.MinInt32, -256, -100, -2, -1, 0, 1, 2, 3, 4, 5, 6, 7, 8, 9, 10, 11, 29, 30, 31, 32, 59, 60, 61, 64,
		99, 100, 101, 128, 254, 255, 256, 257, 512, 1 << 16, math.MaxInt32, 1<<32 + 1, 1<<32 + 100, math.MaxInt - 1, math.MaxInt,
	}
}

// soundConfig, soundRoute are such as have no error.
func soundConfig() api.Config {
	return api.Config{Name: "web", Image: 7, Conc: 2, Min: 1, Max: 3, Grace: 4}
}

func soundRoute() api.Route {
	return api.Route{Name: "front", Config: "web", Roll: 5, Targets: []api.Target{
		{Rev: "web-1", Tag: "old", Percent: 30}, {Rev: "", Tag: "", Percent: 50}, {Rev: "web-2", Tag: "new", Percent: 20},
	}}
}

func of(l ...api.Target) api.Route {
	r := soundRoute()
	r.Targets = l
	return r
}

func checkConfig(t *testing.T, c api.Config, want api.Errno) {
	t.Helper()
	if got := Config(c); got != want {
		t.Errorf("P201: Config(%+v) = %v, want %v", c, got, want)
	}
}

func checkRoute(t *testing.T, r api.Route, want api.Errno) {
	t.Helper()
	if got := Route(r); got != want {
		t.Errorf("P201: Route(%+v) = %v, want %v", r, got, want)
	}
}

func TestP201ConfigSound(t *testing.T) {
	checkConfig(t, soundConfig(), api.OK)
	checkConfig(t, api.Config{Name: "a", Conc: 1, Max: 1}, api.OK)
	checkConfig(t, api.Config{Name: "a", Image: 255, Conc: 8, Min: 10, Max: 10, Grace: 30}, api.OK)
	checkConfig(t, api.Config{}, api.ErrName)
}

func TestP201ConfigNames(t *testing.T) {
	for _, s := range noNames() {
		c := soundConfig()
		c.Name = s
		checkConfig(t, c, api.ErrName)
		c.Image = -1 // the name is told ahead of numbers
		checkConfig(t, c, api.ErrName)
	}
	for _, s := range []string{"a", "z9", "a--b", "abcdefghijklmnop", "a-1"} {
		c := soundConfig()
		c.Name = s
		checkConfig(t, c, api.OK)
	}
}

func TestP201ConfigNumbers(t *testing.T) {
	for _, x := range []struct {
		what        string
		field       func(c *api.Config) *int
		least, most int
	}{
		{"Image", func(c *api.Config) *int { return &c.Image }, 0, 255},
		{"Conc", func(c *api.Config) *int { return &c.Conc }, 1, 8},
		{"Max", func(c *api.Config) *int { return &c.Max }, 1, 10}, // 1 is what the sound one's Min is
		{"Min", func(c *api.Config) *int { return &c.Min }, 0, 3},  // 3 is what the sound one's Max is
		{"Grace", func(c *api.Config) *int { return &c.Grace }, 0, 30},
	} {
		for _, n := range append(numbers(), x.least-1, x.least, x.most, x.most+1) {
			c := soundConfig()
			*x.field(&c) = n
			want := api.ErrArg
			if x.least <= n && n <= x.most {
				want = api.OK
			}
			if got := Config(c); got != want {
				t.Errorf("P201: %s %d: %v, want %v", x.what, n, got, want)
			}
		}
	}
}

func TestP201ConfigMinToMax(t *testing.T) {
	for _, most := range numbers() {
		for _, least := range numbers() {
			c := soundConfig()
			c.Min, c.Max = least, most
			want := api.ErrArg
			if 1 <= most && most <= 10 && 0 <= least && least <= most {
				want = api.OK
			}
			checkConfig(t, c, want)
		}
	}
}

func TestP201RouteSound(t *testing.T) {
	checkRoute(t, soundRoute(), api.OK)
	checkRoute(t, of(api.Target{Percent: 100}), api.OK)
	checkRoute(t, of(api.Target{Percent: 50}, api.Target{Percent: 50}), api.OK) // the empty tag twice
	checkRoute(t, of(api.Target{Tag: "a"}, api.Target{Tag: "b", Percent: 100}, api.Target{Rev: "web-2", Tag: "c"}), api.OK)
	checkRoute(t, of(api.Target{Rev: "web-1", Percent: 50}, api.Target{Rev: "web-1", Percent: 50}), api.OK) // one Rev twice
	checkRoute(t, of(api.Target{Rev: "other-1", Percent: 100}), api.OK)                                     // of another Config
	checkRoute(t, api.Route{}, api.ErrName)
}

func TestP201RouteNames(t *testing.T) {
	for _, s := range noNames() {
		for _, roll := range []int{5, -1, 61} { // names are told ahead of Roll
			r := soundRoute()
			r.Name, r.Roll = s, roll
			checkRoute(t, r, api.ErrName)
			r = soundRoute()
			r.Config, r.Roll = s, roll
			checkRoute(t, r, api.ErrName)
		}
	}
	r := soundRoute()
	r.Name, r.Config = "abcdefghijklmnop", "a-1"
	checkRoute(t, r, api.OK)
}

func TestP201RouteRoll(t *testing.T) {
	for _, n := range numbers() {
		r := soundRoute()
		r.Roll = n
		if 0 <= n && n <= 60 {
			checkRoute(t, r, api.OK)
			continue
		}
		checkRoute(t, r, api.ErrArg)
		r.Targets = nil // Roll is told ahead of the Targets
		checkRoute(t, r, api.ErrArg)
	}
}

func TestP201RouteHowManyTargets(t *testing.T) {
	for n := 0; n <= 20; n++ {
		l := make([]api.Target, n)
		want := api.ErrLong
		if 1 <= n && n <= 6 {
			l[n-1].Percent, want = 100, api.OK
		}
		checkRoute(t, of(l...), want)
	}
	checkRoute(t, of(), api.ErrLong)
	checkRoute(t, of([]api.Target{}...), api.ErrLong)
	checkRoute(t, of(make([]api.Target, 1<<16)...), api.ErrLong)
	bad := api.Target{Rev: "-", Tag: "-", Percent: 101}
	checkRoute(t, of(bad, bad, bad, bad, bad, bad, bad), api.ErrLong) // ahead of what the Targets are
}

func TestP201RouteTargetsRev(t *testing.T) {
	z := strings.Repeat("z", 16)
	for _, s := range []string{"", "a-1", "web-999999", "a-1-2", "a--b-7", z + "-999999"} {
		checkRoute(t, of(api.Target{Rev: s, Percent: 100}), api.OK)
	}
	for _, s := range []string{
		"web", "a", "a-", "-1", "1", "a-0", "a-01", "a-1000000", "a--1", "A-1", "a-1 ", "a-+1", "a-x", "a-1x", "a\xff-1", z + "z-1", strings.Repeat("a", 1<<16) + "-1",
	} {
		checkRoute(t, of(api.Target{Rev: s, Percent: 100}), api.ErrName)
		checkRoute(t, of(api.Target{Rev: s, Percent: -1}), api.ErrName) // names are told ahead of Percent
		checkRoute(t, of(api.Target{Percent: 100}, api.Target{Rev: s}), api.ErrName)
	}
}

func TestP201RouteTargetsTag(t *testing.T) {
	for _, s := range []string{"", "a", "z9", "a--b", "abcdefgh", "a-1"} {
		checkRoute(t, of(api.Target{Tag: s, Percent: 100}), api.OK)
	}
	for _, s := range append(noNames()[1:], "abcdefghi", "abcdefghijklmnop", "123") { // [1:]: an empty one may be
		checkRoute(t, of(api.Target{Tag: s, Percent: 100}), api.ErrName)
		checkRoute(t, of(api.Target{Rev: "web-1", Tag: s, Percent: 101}), api.ErrName)
		checkRoute(t, of(api.Target{Percent: 100}, api.Target{Tag: s}), api.ErrName)
	}
}

func TestP201RouteTargetsPercent(t *testing.T) {
	for _, n := range numbers() {
		if n < 0 || n > 100 {
			checkRoute(t, of(api.Target{Percent: n}), api.ErrArg)
			checkRoute(t, of(api.Target{Percent: n}, api.Target{Percent: 100 - n}), api.ErrArg)
			checkRoute(t, of(api.Target{Percent: 100}, api.Target{Percent: n}), api.ErrArg)
			continue
		}
		checkRoute(t, of(api.Target{Percent: n}, api.Target{Percent: 100 - n}), api.OK)
		if n != 100 {
			checkRoute(t, of(api.Target{Percent: n}), api.ErrSum)
		}
	}
}

func TestP201RouteTheFirstTargetsError(t *testing.T) {
	name, arg := api.Target{Rev: "web"}, api.Target{Percent: 101}
	fine := api.Target{Percent: 100}
	for at := 0; at < 5; at++ {
		l := []api.Target{fine, fine, fine, fine, fine, fine} // of too great a sum, that is told last
		l[at], l[at+1] = name, arg
		checkRoute(t, of(l...), api.ErrName)
		l[at], l[at+1] = arg, name
		checkRoute(t, of(l...), api.ErrArg)
	}
	twice := api.Target{Tag: "a", Percent: 50}
	checkRoute(t, of(twice, twice, arg), api.ErrArg) // each Target is asked ahead of what they are together
	checkRoute(t, of(twice, twice, name), api.ErrName)
}

func TestP201RouteTwice(t *testing.T) {
	for i := 0; i < 6; i++ {
		for j := i + 1; j < 6; j++ {
			l := make([]api.Target, 6)
			l[i].Tag, l[j].Tag = "same", "same"
			checkRoute(t, of(l...), api.ErrTwice) // ahead of the sum, which is 0
			l[i].Percent = 100
			checkRoute(t, of(l...), api.ErrTwice)
			l[j].Rev = "web-1" // the tag alone counts
			checkRoute(t, of(l...), api.ErrTwice)
			l[j].Tag = "same2"
			checkRoute(t, of(l...), api.OK)
		}
	}
}

func TestP201RouteSum(t *testing.T) {
	for n := 1; n <= 6; n++ {
		for a := 0; a <= 100; a++ {
			l := make([]api.Target, n)
			for i := range l {
				l[i].Percent = a
			}
			want := api.ErrSum
			if n*a == 100 {
				want = api.OK
			}
			checkRoute(t, of(l...), want)
		}
	}
	checkRoute(t, of(api.Target{Percent: 50}, api.Target{Percent: 49}), api.ErrSum)
	checkRoute(t, of(api.Target{Percent: 50}, api.Target{Percent: 51}), api.ErrSum)
}

// form is P201's Route in another form, that goes by the chapter's words one by one.
func form(r api.Route) api.Errno {
	if !nameForm.MatchString(r.Name) || !nameForm.MatchString(r.Config) {
		return api.ErrName
	}
	if r.Roll < 0 || r.Roll > 60 {
		return api.ErrArg
	}
	if len(r.Targets) == 0 || len(r.Targets) > 6 {
		return api.ErrLong
	}
	all, tags := 0, map[string]int{}
	for _, t := range r.Targets {
		if !revForm.MatchString(t.Rev) || !tagForm.MatchString(t.Tag) {
			return api.ErrName
		}
		if t.Percent < 0 || t.Percent > 100 {
			return api.ErrArg
		}
		all += t.Percent
		tags[t.Tag]++
	}
	for tag, n := range tags {
		if tag != "" && n > 1 {
			return api.ErrTwice
		}
	}
	if all != 100 {
		return api.ErrSum
	}
	return api.OK
}

// someRoutes calls f with routes of up to three Targets, of all that may be wrong with one, together.
func someRoutes(f func(api.Route)) {
	var kinds []api.Target
	for _, rev := range []string{"", "web-1", "web"} {
		for _, tag := range []string{"", "a", "b", "abcdefghi"} {
			for _, percent := range []int{-1, 0, 50, 100, 101} {
				kinds = append(kinds, api.Target{Rev: rev, Tag: tag, Percent: percent})
			}
		}
	}
	for _, head := range []api.Route{{Name: "r", Config: "web"}, {Name: "r", Config: "web", Roll: 61}, {Name: "r"}} {
		f(head)
		for _, a := range kinds {
			head.Targets = []api.Target{a}
			f(head)
			for _, b := range kinds {
				head.Targets = []api.Target{a, b}
				f(head)
				for _, c := range kinds {
					head.Targets = []api.Target{a, b, c}
					f(head)
				}
			}
		}
	}
}

func TestP201RouteByAnotherForm(t *testing.T) {
	told := map[api.Errno]int{}
	someRoutes(func(r api.Route) {
		want := form(r)
		told[want]++
		if got := Route(r); got != want {
			t.Fatalf("P201: Route(%+v) = %v, want %v", r, got, want)
		}
	})
	for _, e := range []api.Errno{api.OK, api.ErrName, api.ErrArg, api.ErrLong, api.ErrTwice, api.ErrSum} {
		if told[e] == 0 {
			t.Errorf("P201: %v was not tried", e)
		}
	}
}

func checkSame(t *testing.T, a, b api.Route, want bool) {
	t.Helper()
	if SameRoute(a, b) != want || SameRoute(b, a) != want {
		t.Errorf("P201: SameRoute of %+v, %+v = %v, %v, want %v", a, b, SameRoute(a, b), SameRoute(b, a), want)
	}
}

func TestP201SameRouteOneThingOther(t *testing.T) {
	checkSame(t, soundRoute(), soundRoute(), true)
	for what, do := range map[string]func(r *api.Route){
		"Name":         func(r *api.Route) { r.Name = "back" },
		"Config":       func(r *api.Route) { r.Config = "wob" },
		"Roll":         func(r *api.Route) { r.Roll = 6 },
		"Name, Config": func(r *api.Route) { r.Name, r.Config = r.Config, r.Name },
		"Rev":          func(r *api.Route) { r.Targets[2].Rev = "web-3" },
		"no Rev":       func(r *api.Route) { r.Targets[0].Rev = "" },
		"Tag":          func(r *api.Route) { r.Targets[0].Tag = "new2" },
		"no Tag":       func(r *api.Route) { r.Targets[2].Tag = "" },
		"Percent":      func(r *api.Route) { r.Targets[1].Percent = 51 },
		"order":        func(r *api.Route) { r.Targets[0], r.Targets[2] = r.Targets[2], r.Targets[0] },
		"less":         func(r *api.Route) { r.Targets = r.Targets[:2] },
		"less ahead":   func(r *api.Route) { r.Targets = r.Targets[1:] },
		"more":         func(r *api.Route) { r.Targets = append(r.Targets, api.Target{}) },
		"none":         func(r *api.Route) { r.Targets = nil },
	} {
		r := soundRoute()
		do(&r)
		if SameRoute(r, soundRoute()) || SameRoute(soundRoute(), r) {
			t.Errorf("P201: SameRoute with another %s", what)
		}
		checkSame(t, r, r, true)
	}
}

func TestP201SameRouteAny(t *testing.T) {
	checkSame(t, api.Route{}, api.Route{Targets: []api.Target{}}, true) // P2: no list and an empty one
	checkSame(t, api.Route{}, api.Route{Targets: make([]api.Target, 0, 4)}, true)
	checkSame(t, api.Route{}, api.Route{Targets: make([]api.Target, 1)}, false)
	wild := api.Route{Name: "\xff", Config: "A B", Roll: math.MinInt, Targets: []api.Target{{Rev: "-", Tag: "é", Percent: math.MaxInt}}}
	checkSame(t, wild, wild, true) // what Route refuses is held against each other too
	other := wild
	other.Roll++
	checkSame(t, wild, other, false)
	long := api.Route{Targets: make([]api.Target, 1<<16)}
	last := api.Route{Targets: make([]api.Target, 1<<16)}
	checkSame(t, long, last, true)
	last.Targets[1<<16-1].Percent = 1
	checkSame(t, long, last, false)
}

func TestP201SameRouteSpareRoomDoesNotCount(t *testing.T) {
	a, b := soundRoute(), soundRoute()
	a.Targets, b.Targets = append(a.Targets, api.Target{Tag: "x"})[:3], append(b.Targets, api.Target{Tag: "y"})[:3]
	checkSame(t, a, b, true)
}

func TestP201SameRouteByAnotherForm(t *testing.T) {
	var l []api.Route
	someRoutes(func(r api.Route) {
		if len(r.Targets) < 2 {
			l = append(l, r)
		}
	})
	for _, a := range l {
		for _, b := range l {
			want := a.Name == b.Name && a.Config == b.Config && a.Roll == b.Roll && len(a.Targets) == len(b.Targets)
			for i := 0; want && i < len(a.Targets); i++ {
				x, y := a.Targets[i], b.Targets[i]
				want = x.Rev == y.Rev && x.Tag == y.Tag && x.Percent == y.Percent
			}
			if SameRoute(a, b) != want {
				t.Fatalf("P201: SameRoute of %+v, %+v = %v", a, b, !want)
			}
		}
	}
}

// What was handed in is held, its spare room too, against what it was.
func TestP2WhatIsHandedInStays(t *testing.T) {
	for _, x := range [][]api.Target{
		soundRoute().Targets,
		{{Rev: "web", Tag: "z", Percent: 9}, {Tag: "a", Percent: 101}},
		{{Tag: "z", Percent: 9}, {Tag: "a", Percent: 1}, {Tag: "a", Percent: 90}},
		make([]api.Target, 7),
	} {
		spare := append(slices.Clone(x), api.Target{Rev: "spare-1", Tag: "spare", Percent: 3})
		was := slices.Clone(spare)
		r := of(spare[:len(x)]...)
		one, two := Route(r), Route(r)
		if one != two {
			t.Errorf("P3: %v, then %v", one, two)
		}
		SameRoute(r, soundRoute())
		SameRoute(r, r)
		if !reflect.DeepEqual(spare, was) {
			t.Errorf("P2: %+v, was %+v", spare, was)
		}
	}
}
