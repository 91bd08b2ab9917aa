package event

import (
	"bytes"
	"encoding/binary"
	"math"
	"math/rand"
	"reflect"
	"regexp"
	"slices"
	"strings"
	"testing"
	"unsafe"

	"damper/api"
	"damper/spec"
)

// W1 once more, in another way than package label's.
var (
	nameForm = regexp.MustCompile(`\A[a-z](?:[a-z0-9-]{0,14}[a-z0-9])?\z`)
	tagForm  = regexp.MustCompile(`\A(?:[a-z](?:[a-z0-9-]{0,6}[a-z0-9])?)?\z`) // or none
	revForm  = regexp.MustCompile(`\A[a-z](?:[a-z0-9-]{0,14}[a-z0-9])?-[1-9][0-9]{0,5}\z`)
)

func soundConfig() api.Config {
	return api.Config{Name: "web", Image: 7, Conc: 2, Min: 1, Max: 3, Grace: 4}
}

func soundRoute() api.Route {
	return api.Route{Name: "front", Config: "web", Roll: 5, Targets: []api.Target{
		{Rev: "web-1", Tag: "old", Percent: 30}, {Percent: 50}, {Rev: "web-2", Tag: "new", Percent: 20},
	}}
}

// sound is of each kind an event that may be.
func sound() []api.Event {
	return []api.Event{
		{Kind: 1, N: 3, C: soundConfig()}, {Kind: 2, N: 3, R: soundRoute()}, {Kind: 3, N: 2, Name: "front", Draw: 3},
		{Kind: 4, N: 5, Name: "front", Tag: "old", Draw: 77}, {Kind: 5, N: 5}, {Kind: 6, N: 5}, {Kind: 7, N: 5}, {Kind: 8, N: 5},
		{Kind: 9}, {Kind: 10, Name: "web"}, {Kind: 11, Name: "front"}, {Kind: 12, Name: "web-1"}, {Kind: 13, Name: "web-1"},
	}
}

// kinds of the sound ones that have a thing.
var (
	haveVersion = []int{1, 2}
	haveNumber  = []int{4, 5, 6, 7, 8}
	haveN       = []int{1, 2, 3, 4, 5, 6, 7, 8}
	haveDraw    = []int{3, 4}
	haveName    = []int{3, 4, 10, 11, 12, 13}
	haveTag     = []int{4}
	haveC       = []int{1}
	haveR       = []int{2}
)

func soundOf(kind int) api.Event { return sound()[kind-1] }

// numbers are such as lie at and about every bound that the chapter names.
func numbers() []int {
	return []int{
		math.MinInt, math.MinInt + 1, math.MinInt32, -1 << 31, -256, -2, -1, 0, 1, 2, 3, 4, 255, 256, 257, 1<<16 - 1, 1 << 16, 1 << 24,
		math.MaxInt32 - 1, math.MaxInt32, math.MaxInt32 + 1, 1<<32 - 1, 1 << 32, 1<<32 + 1, math.MaxInt - 1, math.MaxInt,
	}
}

// texts are such as are names, revisions' names, tags, or none of these.
func texts() []string {
	return []string{
		"", "a", "z9", "a-b", "web", "web-1", "a-0", "a-01", "a-999999", "a-1000000", "a--1", "a-1-2", "abcdefgh", "abcdefghi", "abcdefghijklmnop", "abcdefghijklmnop-999999",
		"abcdefghijklmnopq", "abcdefghijklmnopq-1", "-", "-a", "a-", "1", "A", "A-1", "a b", "a\x00", "a\xff", "é", "a\n", " a", strings.Repeat("a", 255), strings.Repeat("a", 256), strings.Repeat("a", 1<<16),
	}
}

// same tells whether all of two events is the same; no list and an empty one are.
func same(a, b api.Event) bool {
	if len(a.R.Targets) == 0 && len(b.R.Targets) == 0 {
		a.R.Targets, b.R.Targets = nil, nil
	}
	return reflect.DeepEqual(a, b)
}

func checkCheck(t *testing.T, e api.Event, want api.Errno) {
	t.Helper()
	if got := Check(e); got != want {
		t.Fatalf("P301: Check(%+v) = %v, want %v", e, got, want)
	}
}

func checkParse(t *testing.T, b []byte, e api.Event, want api.Errno) {
	t.Helper()
	if got, no := Parse(b); no != want || !same(got, e) {
		t.Fatalf("P302: Parse(%.80q) = %+v, %v, want %+v, %v", b, got, no, e, want)
	}
}

func TestP301Sound(t *testing.T) {
	for _, e := range sound() {
		checkCheck(t, e, api.OK)
		e.R.Targets = slices.Grow(e.R.Targets, 3) // P2: an empty list, with spare room, is none
		checkCheck(t, e, api.OK)
	}
}

func TestP301Kinds(t *testing.T) {
	for _, kind := range append(numbers(), 12, 13, 14, 15, -13) {
		if 1 <= kind && kind <= 13 {
			continue
		}
		checkCheck(t, api.Event{Kind: kind}, api.ErrKind)
		for _, e := range sound() { // ahead of all that else may be wrong
			e.Kind = kind
			checkCheck(t, e, api.ErrKind)
		}
	}
}

// oddities are of each thing that a kind may lack several that are not zero, if but a little.
func oddities() map[string][]func(e *api.Event) {
	return map[string][]func(e *api.Event){
		"N":    {func(e *api.Event) { e.N = 1 }, func(e *api.Event) { e.N = -1 }, func(e *api.Event) { e.N = 1 << 32 }},
		"Draw": {func(e *api.Event) { e.Draw = 1 }, func(e *api.Event) { e.Draw = -1 }, func(e *api.Event) { e.Draw = 1 << 32 }},
		"Name": {func(e *api.Event) { e.Name = "a" }, func(e *api.Event) { e.Name = "\x00" }},
		"Tag":  {func(e *api.Event) { e.Tag = "a" }, func(e *api.Event) { e.Tag = "-" }},
		"C": {
			func(e *api.Event) { e.C.Name = "A" }, func(e *api.Event) { e.C.Image = 1 }, func(e *api.Event) { e.C.Conc = 1 }, func(e *api.Event) { e.C.Min = -1 },
			func(e *api.Event) { e.C.Max = 1 }, func(e *api.Event) { e.C.Grace = 1 }, func(e *api.Event) { e.C = soundConfig() },
		},
		"R": {
			func(e *api.Event) { e.R.Name = "a" }, func(e *api.Event) { e.R.Config = "A" }, func(e *api.Event) { e.R.Roll = -1 },
			func(e *api.Event) { e.R.Targets = make([]api.Target, 1) }, func(e *api.Event) { e.R = soundRoute() },
		},
	}
}

func TestP301WhatAKindDoesNotHave(t *testing.T) {
	have := map[string][]int{"N": haveN, "Draw": haveDraw, "Name": haveName, "Tag": haveTag, "C": haveC, "R": haveR}
	for what, l := range oddities() {
		for i, odd := range l {
			for _, e := range sound() {
				if slices.Contains(have[what], e.Kind) {
					continue
				}
				odd(&e)
				if got := Check(e); got != api.ErrArg {
					t.Errorf("P301: kind %d with %s (%d): %v, want %v", e.Kind, what, i, got, api.ErrArg)
				}
				bare := api.Event{Kind: e.Kind} // whatever else is wrong with it is told behind
				odd(&bare)
				if got := Check(bare); got != api.ErrArg {
					t.Errorf("P301: kind %d with %s (%d) alone: %v, want %v", e.Kind, what, i, got, api.ErrArg)
				}
			}
		}
	}
}

// checkNumbers holds numbers of an event's field against their bounds.
func checkNumbers(t *testing.T, kinds []int, field func(e *api.Event) *int, least, most int) {
	t.Helper()
	for _, kind := range kinds {
		for _, n := range numbers() {
			e := soundOf(kind)
			*field(&e) = n
			want := api.ErrArg
			if least <= n && n <= most {
				want = api.OK
			}
			checkCheck(t, e, want)
		}
	}
}

func TestP301Numbers(t *testing.T) {
	n, draw := func(e *api.Event) *int { return &e.N }, func(e *api.Event) *int { return &e.Draw }
	checkNumbers(t, haveVersion, n, 0, 1<<31-1)
	checkNumbers(t, haveNumber, n, 1, 1<<31-1)
	checkNumbers(t, []int{3}, n, 1, 2)
	checkNumbers(t, haveDraw, draw, 0, 1<<31-1)
}

// checkTexts holds texts of an event's field against their form.
func checkTexts(t *testing.T, kinds []int, field func(e *api.Event) *string, may *regexp.Regexp) {
	t.Helper()
	for _, kind := range kinds {
		for _, s := range texts() {
			e := soundOf(kind)
			*field(&e) = s
			want := api.ErrName
			if may.MatchString(s) {
				want = api.OK
			}
			if got := Check(e); got != want {
				t.Errorf("P301: kind %d with %.40q: %v, want %v", kind, s, got, want)
			}
		}
	}
}

func TestP301Texts(t *testing.T) {
	name, tag := func(e *api.Event) *string { return &e.Name }, func(e *api.Event) *string { return &e.Tag }
	checkTexts(t, []int{3, 4, 10, 11}, name, nameForm)
	checkTexts(t, []int{12, 13}, name, revForm)
	checkTexts(t, haveTag, tag, tagForm)
}

func TestP301SpecsErrors(t *testing.T) {
	for _, c := range someConfigs() {
		checkCheck(t, api.Event{Kind: 1, C: c}, spec.Config(c))
		checkCheck(t, api.Event{Kind: 1, N: -1, C: c}, api.ErrArg) // N is told ahead of C
	}
	for _, r := range someRoutes() {
		checkCheck(t, api.Event{Kind: 2, R: r}, spec.Route(r))
		checkCheck(t, api.Event{Kind: 2, N: 1 << 31, R: r}, api.ErrArg)
	}
}

// someConfigs, someRoutes have all errors that spec tells, and none.
func someConfigs() []api.Config {
	l := []api.Config{{}, soundConfig()}
	for _, odd := range []func(c *api.Config){
		func(c *api.Config) { c.Name = "A" }, func(c *api.Config) { c.Image = -1 }, func(c *api.Config) { c.Image = 256 }, func(c *api.Config) { c.Image = 255 },
		func(c *api.Config) { c.Conc = 0 }, func(c *api.Config) { c.Conc = 9 }, func(c *api.Config) { c.Min = 4 }, func(c *api.Config) { c.Max = 11 }, func(c *api.Config) { c.Grace = 31 },
	} {
		c := soundConfig()
		odd(&c)
		l = append(l, c)
	}
	return l
}

func someRoutes() []api.Route {
	l := []api.Route{{}, soundRoute()}
	for _, odd := range []func(r *api.Route){
		func(r *api.Route) { r.Name = "A" }, func(r *api.Route) { r.Config = "" }, func(r *api.Route) { r.Roll = 61 }, func(r *api.Route) { r.Roll = -1 },
		func(r *api.Route) { r.Targets = nil }, func(r *api.Route) { r.Targets = make([]api.Target, 7) }, func(r *api.Route) { r.Targets = make([]api.Target, 300) },
		func(r *api.Route) { r.Targets[0].Rev = "web" }, func(r *api.Route) { r.Targets[1].Tag = "abcdefghi" }, func(r *api.Route) { r.Targets[2].Percent = 101 },
		func(r *api.Route) { r.Targets[1].Tag = "new" }, func(r *api.Route) { r.Targets[1].Percent = 49 }, func(r *api.Route) { r.Roll = 60 },
	} {
		r := soundRoute()
		odd(&r)
		l = append(l, r)
	}
	return l
}

func TestP301InOrder(t *testing.T) {
	for _, n := range []int{-1, 0, 1, 2, 3} {
		for _, name := range []string{"a", "", "A"} {
			for _, tag := range []string{"", "t", "-"} {
				for _, draw := range []int{-1, 0, 1 << 31} {
					arrive, drop := api.OK, api.OK
					switch { // of EArrive: N, Name, Tag, Draw
					case n < 1:
						arrive = api.ErrArg
					case name != "a" || tag == "-":
						arrive = api.ErrName
					case draw != 0:
						arrive = api.ErrArg
					}
					switch { // of EDrop: no Tag; N, Name, Draw
					case tag != "" || n < 1 || n > 2:
						drop = api.ErrArg
					case name != "a":
						drop = api.ErrName
					case draw != 0:
						drop = api.ErrArg
					}
					checkCheck(t, api.Event{Kind: 4, N: n, Name: name, Tag: tag, Draw: draw}, arrive)
					checkCheck(t, api.Event{Kind: 3, N: n, Name: name, Tag: tag, Draw: draw}, drop)
				}
			}
		}
	}
}

// written are events and their bytes, by hand.
func written() []struct {
	e api.Event
	b string
} {
	z := strings.Repeat("z", 16)
	return []struct {
		e api.Event
		b string
	}{
		{api.Event{Kind: 1, N: 0x01020304, C: api.Config{Name: "web", Image: 255, Conc: 8, Min: 2, Max: 10, Grace: 30}}, "\x01\x01\x02\x03\x04\x03web\xff\x08\x02\x0a\x1e"},
		{api.Event{Kind: 1, C: api.Config{Name: z, Conc: 1, Max: 1}}, "\x01\x00\x00\x00\x00\x10" + z + "\x00\x01\x00\x01\x00"},
		{api.Event{Kind: 2, N: 1, R: soundRoute()}, "\x02\x00\x00\x00\x01\x05front\x03web\x05\x03\x05web-1\x03old\x1e\x00\x00\x32\x05web-2\x03new\x14"},
		{api.Event{Kind: 2, N: 1<<31 - 1, R: api.Route{Name: "r", Config: "a", Roll: 60, Targets: []api.Target{{Percent: 100}}}}, "\x02\x7f\xff\xff\xff\x01r\x01a\x3c\x01\x00\x00\x64"},
		{api.Event{Kind: 3, N: 1, Name: "web", Draw: 1<<31 - 1}, "\x03\x00\x00\x00\x01\x03web\x7f\xff\xff\xff"},
		{api.Event{Kind: 3, N: 2, Name: "web"}, "\x03\x00\x00\x00\x02\x03web\x00\x00\x00\x00"},
		{api.Event{Kind: 4, N: 258, Name: "front", Tag: "old", Draw: 99}, "\x04\x00\x00\x01\x02\x05front\x03old\x00\x00\x00\x63"},
		{api.Event{Kind: 4, N: 1, Name: "front"}, "\x04\x00\x00\x00\x01\x05front\x00\x00\x00\x00\x00"},
		{api.Event{Kind: 5, N: 1}, "\x05\x00\x00\x00\x01"},
		{api.Event{Kind: 6, N: 1 << 8}, "\x06\x00\x00\x01\x00"},
		{api.Event{Kind: 7, N: 1 << 16}, "\x07\x00\x01\x00\x00"},
		{api.Event{Kind: 8, N: 1 << 24}, "\x08\x01\x00\x00\x00"},
		{api.Event{Kind: 9}, "\x09"},
		{api.Event{Kind: 10, Name: "web"}, "\x0a\x03web"},
		{api.Event{Kind: 11, Name: z}, "\x0b\x10" + z},
		{api.Event{Kind: 12, Name: "web-1"}, "\x0c\x05web-1"},
		{api.Event{Kind: 13, Name: z + "-999999"}, "\x0d\x17" + z + "-999999"},
	}
}

func TestP302BytesByHand(t *testing.T) {
	for _, x := range written() {
		if got := Bytes(x.e); string(got) != x.b {
			t.Errorf("P302: Bytes(%+v) = %q, want %q", x.e, got, x.b)
		}
		checkParse(t, []byte(x.b), x.e, api.OK)
	}
}

func TestP302ParseCutAndMore(t *testing.T) {
	checkParse(t, nil, api.Event{}, api.ErrCut)
	checkParse(t, []byte{}, api.Event{}, api.ErrCut)
	for _, x := range written() {
		for n := range x.b {
			checkParse(t, []byte(x.b[:n]), api.Event{}, api.ErrCut)
		}
		for _, more := range []string{"\x00", "\x09", "\xff\xff", x.b, strings.Repeat("\x00", 1<<16)} {
			checkParse(t, []byte(x.b+more), api.Event{}, api.ErrMore)
		}
	}
	many := []byte("\x02\x00\x00\x00\x00\x01r\x01a\x00\xff" + strings.Repeat("\x00", 3*255))
	for n := range many { // as many Targets as a byte tells
		checkParse(t, many[:n], api.Event{}, api.ErrCut)
	}
	checkParse(t, many, api.Event{}, api.ErrLong)
	checkParse(t, append(many, 0), api.Event{}, api.ErrMore)
}

func TestP302ParseKinds(t *testing.T) {
	for kind := range 256 {
		if 1 <= kind && kind <= 13 {
			continue
		}
		for _, behind := range []string{"", "\x00", "\x00\x00\x00\x01", "\x03web", strings.Repeat("\xff", 300)} {
			checkParse(t, append([]byte{byte(kind)}, behind...), api.Event{}, api.ErrKind)
		}
	}
}

// What is told of bytes: ahead of all that they lack, then that some are left, then what Check tells.
func TestP302ParseErrorsInOrder(t *testing.T) {
	for b, want := range map[string]api.Errno{
		"\x06\x00\x00\x00\x00":                                             api.ErrArg,
		"\x06\x80\x00\x00\x00":                                             api.ErrArg,
		"\x06\xff\xff\xff\xff":                                             api.ErrArg,
		"\x06\xff\xff\xff":                                                 api.ErrCut,
		"\x06\xff\xff\xff\xff\xff":                                         api.ErrMore,
		"\x01\xff\xff\xff\xff\x01a\x00\x01\x00\x01\x00":                    api.ErrArg,
		"\x01\x00\x00\x00\x00\x01A\x00\x01\x00\x01\x00":                    api.ErrName,
		"\x01\x00\x00\x00\x00\x01A\x00\x01\x00\x01":                        api.ErrCut,
		"\x01\x00\x00\x00\x00\x01A\x00\x01\x00\x01\x00\x00":                api.ErrMore,
		"\x01\x00\x00\x00\x00\x01a\x00\x00\x00\x01\x00":                    api.ErrArg,
		"\x01\x00\x00\x00\x00\x01a\x00\x01\x02\x01\x00":                    api.ErrArg,
		"\x02\x00\x00\x00\x00\x01r\x01a\x00\x00":                           api.ErrLong,
		"\x02\x00\x00\x00\x00\x01r\x01a\x00\x00\x00":                       api.ErrMore,
		"\x02\x00\x00\x00\x00\x01r\x01a\x00\x01\x00\x00\x63":               api.ErrSum,
		"\x02\x00\x00\x00\x00\x01r\x01a\x00\x01\x00\x00\xff":               api.ErrArg,
		"\x02\x00\x00\x00\x00\x01r\x01a\x3d\x01\x00\x00\x64":               api.ErrArg,
		"\x02\x00\x00\x00\x00\x01r\x01a\x00\x02\x00\x01t\x32\x00\x01t\x32": api.ErrTwice,
		"\x02\x00\x00\x00\x00\x01r\x01a\x00\x01\x01a\x00\x64":              api.ErrName,
		"\x03\x00\x00\x00\x03\x01a\x00\x00\x00\x00":                        api.ErrArg,
		"\x03\x00\x00\x00\x01\x00\x00\x00\x00\x00":                         api.ErrName,
		"\x03\x00\x00\x00\x01\x01a\x80\x00\x00\x00":                        api.ErrArg,
		"\x03\x00\x00\x00\x01\x01A\x80\x00\x00\x00":                        api.ErrName,
		"\x04\x00\x00\x00\x01\x01a\x011\x00\x00\x00\x00":                   api.ErrName,
		"\x04\x00\x00\x00\x01\x01a\x011\x00\x00\x00":                       api.ErrCut,
		"\x09\x00":                            api.ErrMore,
		"\x0a":                                api.ErrCut,
		"\x0a\x00":                            api.ErrName,
		"\x0a\xff":                            api.ErrCut,
		"\x0aweb":                             api.ErrCut, // 119 signs are told
		"\x0a\xff" + strings.Repeat("a", 254): api.ErrCut,
		"\x0a\xff" + strings.Repeat("a", 255): api.ErrName,
		"\x0a\xff" + strings.Repeat("a", 256): api.ErrMore,
		"\x0a\x01\xff":                        api.ErrName,
		"\x0c\x03web":                         api.ErrName,
		"\x0d\x05web-0":                       api.ErrName,
	} {
		checkParse(t, []byte(b), api.Event{}, want)
	}
}

// plain is Parse in another form: bytes by bytes.Reader, Check by its own.
type plain struct {
	*bytes.Reader
	cut bool
}

func (p *plain) number(size int) int {
	b := make([]byte, 8)
	p.fill(b[8-size:])
	return int(binary.BigEndian.Uint64(b))
}

func (p *plain) fill(b []byte) {
	for i := range b {
		x, err := p.ReadByte()
		if err != nil {
			p.cut = true
		}
		b[i] = x
	}
}

func (p *plain) text() string {
	b := make([]byte, p.number(1))
	p.fill(b)
	return string(b)
}

func (p *plain) route() (r api.Route) {
	r.Name = p.text()
	r.Config = p.text()
	r.Roll = p.number(1)
	r.Targets = make([]api.Target, p.number(1))
	for i := range r.Targets {
		x := &r.Targets[i]
		x.Rev = p.text()
		x.Tag = p.text()
		x.Percent = p.number(1)
	}
	return r
}

func (p *plain) config() (c api.Config) {
	c.Name = p.text()
	for _, n := range []*int{&c.Image, &c.Conc, &c.Min, &c.Max, &c.Grace} {
		*n = p.number(1)
	}
	return c
}

func (p *plain) event() (e api.Event, no api.Errno) {
	e.Kind = p.number(1)
	if p.cut {
		return e, api.ErrCut
	}
	if e.Kind < 1 || e.Kind > 13 {
		return e, api.ErrKind
	}
	if slices.Contains(haveN, e.Kind) {
		e.N = p.number(4)
	}
	if slices.Contains(haveName, e.Kind) {
		e.Name = p.text()
	}
	if slices.Contains(haveTag, e.Kind) {
		e.Tag = p.text()
	}
	if slices.Contains(haveDraw, e.Kind) {
		e.Draw = p.number(4)
	}
	if slices.Contains(haveC, e.Kind) {
		e.C = p.config()
	}
	if slices.Contains(haveR, e.Kind) {
		e.R = p.route()
	}
	if p.cut {
		return e, api.ErrCut
	}
	if p.Len() > 0 {
		return e, api.ErrMore
	}
	return e, checkPlain(e)
}

// checkPlain is Check of what a kind has, in another form.
func checkPlain(e api.Event) api.Errno {
	least, most := 0, 1<<31-1
	if slices.Contains(haveNumber, e.Kind) || e.Kind == 3 {
		least = 1
	}
	if e.Kind == 3 {
		most = 2
	}
	if slices.Contains(haveN, e.Kind) && (e.N < least || e.N > most) {
		return api.ErrArg
	}
	form := nameForm
	if e.Kind >= 12 {
		form = revForm
	}
	if slices.Contains(haveName, e.Kind) && !form.MatchString(e.Name) || !tagForm.MatchString(e.Tag) {
		return api.ErrName
	}
	if e.Draw > 1<<31-1 {
		return api.ErrArg
	}
	switch e.Kind {
	case 1:
		return spec.Config(e.C)
	case 2:
		return spec.Route(e.R)
	}
	return api.OK
}

// checkAny holds Parse of any bytes against the other form, and P303 of them; it answers the error.
func checkAny(t *testing.T, b []byte) api.Errno {
	t.Helper()
	want, no := (&plain{Reader: bytes.NewReader(b)}).event()
	if no != api.OK {
		want = api.Event{}
	}
	checkParse(t, b, want, no)
	if no != api.OK {
		return no
	}
	if e, _ := Parse(b); Check(e) != api.OK || !bytes.Equal(Bytes(e), b) {
		t.Fatalf("P303: %.80q was read as %+v, which is written as %.80q, %v", b, e, Bytes(e), Check(e))
	}
	return no
}

func TestP302ParseShortBytes(t *testing.T) {
	bs := []byte{0, 1, 2, 3, 'a', '-', '1', 127, 128, 255}
	var all func(b []byte, more int)
	all = func(b []byte, more int) {
		checkAny(t, b)
		if more == 0 {
			return
		}
		for _, x := range bs {
			all(append(b[:len(b):len(b)], x), more-1)
		}
	}
	for kind := range 16 {
		all([]byte{byte(kind)}, 4)
	}
}

// spoil changes bytes here and there: one is another one, is gone, or is there twice.
func spoil(d *rand.Rand, b []byte) []byte {
	b = bytes.Clone(b)
	for range 1 + d.Intn(3) {
		if len(b) == 0 {
			break
		}
		at := d.Intn(len(b))
		switch d.Intn(5) {
		case 0:
			b = slices.Delete(b, at, at+1)
		case 1:
			b = slices.Insert(b, at, b[at])
		case 2:
			b[at] = byte(d.Intn(256))
		case 3:
			b[at]++
		case 4:
			b[at] = "a-z019\x00\x01\x7f\x80\xff"[d.Intn(11)]
		}
	}
	return b
}

func TestP302ParseSpoiltBytes(t *testing.T) {
	d := rand.New(rand.NewSource(3))
	told := map[api.Errno]int{}
	for range 4000 {
		for _, x := range written() {
			told[checkAny(t, spoil(d, []byte(x.b)))]++
		}
	}
	for _, no := range []api.Errno{api.OK, api.ErrName, api.ErrArg, api.ErrLong, api.ErrSum, api.ErrCut, api.ErrMore, api.ErrKind} {
		if told[no] == 0 {
			t.Errorf("P302: %v was not tried", no)
		}
	}
}

// someEvent is any event that may be.
func someEvent(d *rand.Rand) api.Event {
	number := func(least, most int) int { return []int{least, most, least + d.Intn(most-least+1)}[d.Intn(3)] }
	pick := func(l ...string) string { return l[d.Intn(len(l))] }
	names := []string{"a", "web", "x-1", "a--b", "zzzzzzzzzzzzzzzz"}
	revs := []string{"a-1", "web-999999", "zzzzzzzzzzzzzzzz-100000", "x-1-20"}
	e := soundOf(1 + d.Intn(13))
	switch e.Kind {
	case 1:
		e.N = number(0, 1<<31-1)
		e.C = api.Config{Name: pick(names...), Image: number(0, 255), Conc: number(1, 8), Max: number(1, 10), Grace: number(0, 30)}
		e.C.Min = number(0, e.C.Max)
	case 2:
		e.N = number(0, 1<<31-1)
		e.R = api.Route{Name: pick(names...), Config: pick(names...), Roll: number(0, 60), Targets: make([]api.Target, number(1, 6))}
		left := 100
		for i := range e.R.Targets {
			p := number(0, left)
			left -= p
			e.R.Targets[i] = api.Target{Rev: pick(append(revs, "")...), Tag: []string{"", string(rune('a' + i)), "tag-" + string(rune('a'+i))}[d.Intn(3)], Percent: p}
		}
		e.R.Targets[0].Percent += left
	case 3:
		e.N, e.Name, e.Draw = number(1, 2), pick(names...), number(0, 1<<31-1)
	case 4:
		e.N, e.Name, e.Tag, e.Draw = number(1, 1<<31-1), pick(names...), pick("", "t", "abcdefgh", "a-1"), number(0, 1<<31-1)
	case 5, 6, 7, 8:
		e.N = number(1, 1<<31-1)
	case 10, 11:
		e.Name = pick(names...)
	case 12, 13:
		e.Name = pick(revs...)
	}
	return e
}

func TestP303ReadAsItWasWritten(t *testing.T) {
	d := rand.New(rand.NewSource(4))
	for range 20000 {
		e := someEvent(d)
		checkCheck(t, e, api.OK)
		b := Bytes(e)
		if x, no := Parse(b); no != api.OK || !same(x, e) {
			t.Fatalf("P303: %+v was read as %+v, %v", e, x, no)
		}
		checkAny(t, b)
	}
}

func checkCut(t *testing.T, b []byte, want ...string) {
	t.Helper()
	got := []string{}
	for _, p := range Cut(b) {
		got = append(got, string(p))
	}
	if !slices.Equal(got, want) {
		t.Fatalf("P302: Cut(%.40q) = %.40q, want %.40q", b, got, want)
	}
}

func TestP302CutByHand(t *testing.T) {
	checkCut(t, nil)
	checkCut(t, []byte{})
	for b := range 256 {
		checkCut(t, []byte{byte(b)}, string([]byte{byte(b)})) // but one is left
		checkCut(t, []byte{0, 1, 7, byte(b)}, "\x07", string([]byte{byte(b)}))
	}
	checkCut(t, []byte("\x00\x00"), "")
	checkCut(t, []byte("\x00\x01"), "") // all of it lacks
	checkCut(t, []byte("\xff\xff"), "")
	checkCut(t, []byte("\x00\x00\x00\x00\x00"), "", "", "\x00")
	checkCut(t, []byte("\x00\x03ab"), "ab") // a part of it lacks
	checkCut(t, []byte("\x00\x03abc"), "abc")
	checkCut(t, []byte("\x00\x03abcd"), "abc", "d")
	checkCut(t, []byte("\x00\x03abcde"), "abc", "")
	checkCut(t, []byte("\x00\x03abcde\x00"), "abc", "\x00")
	checkCut(t, []byte("\x00\x03abc\x00\x02de\x00\x00\x00\x01f"), "abc", "de", "", "f")
	for _, size := range []int{254, 255, 256, 257, 1<<15 - 1, 1 << 15, 1<<16 - 1} { // the higher first
		s := strings.Repeat("x", size)
		b := string([]byte{byte(size / 256), byte(size % 256)})
		checkCut(t, []byte(b+s), s)
		checkCut(t, []byte(b+s+"y"), s, "y")
		checkCut(t, []byte(b+s[1:]), s[1:])
		checkCut(t, []byte(b+s+b+s+"\x00\x02yz"), s, s, "yz")
	}
}

func TestP302CutOfWhatIsWritten(t *testing.T) {
	var script []byte
	for _, x := range written() {
		script = append(append(script, 0, byte(len(x.b))), x.b...)
	}
	l := Cut(script)
	if len(l) != len(written()) {
		t.Fatalf("P302: %d pieces", len(l))
	}
	for i, x := range written() {
		checkParse(t, l[i], x.e, api.OK)
	}
}

// cutPlain is Cut in another form: of all that is left each time.
func cutPlain(b []byte) (l []string) {
	switch {
	case len(b) == 0:
		return []string{}
	case len(b) == 1:
		return []string{string(b)}
	}
	end := 2 + 256*int(b[0]) + int(b[1])
	if end >= len(b) {
		return []string{string(b[2:])}
	}
	return append([]string{string(b[2:end])}, cutPlain(b[end:])...)
}

func TestP302CutAny(t *testing.T) {
	d := rand.New(rand.NewSource(5))
	for size := range 400 {
		for range 20 {
			b := make([]byte, size)
			for i := range b {
				if d.Intn(2) == 0 {
					b[i] = byte(d.Intn(5))
				}
			}
			checkCut(t, b, cutPlain(b)...)
		}
	}
	if l := Cut(make([]byte, 1<<21+1)); len(l) != 1<<20+1 {
		t.Errorf("P302: %d pieces", len(l))
	}
}

// P1, P8: Bytes of what Check refuses answers something.
func TestP1BytesOfAny(t *testing.T) {
	for _, kind := range numbers() {
		for _, n := range numbers() {
			for _, s := range []string{"", "\xff", strings.Repeat("a", 1<<10)} {
				e := api.Event{
					Kind: kind, Name: s, Tag: s, N: n, Draw: n, C: api.Config{Name: s, Image: n, Conc: n, Min: n, Max: n, Grace: n},
					R: api.Route{Name: s, Config: s, Roll: n, Targets: []api.Target{{Rev: s, Tag: s, Percent: n}}},
				}
				Bytes(e)
				Check(e)
			}
		}
	}
	Bytes(api.Event{Kind: 2, R: api.Route{Targets: make([]api.Target, 1<<16)}})
}

// P2: what is handed in, its spare room too, stays as it was, and so do answers
// when it, or another answer, is changed.
func TestP2BytesHandedInStay(t *testing.T) {
	for _, x := range written() {
		room := []byte(string([]byte{0, byte(len(x.b))}) + x.b + "\x00\x02\x09\x00spare")
		given := room[: len(room)-5 : len(room)]
		was := bytes.Clone(room)
		e, no := Parse(given[2 : 2+len(x.b)])
		if no != api.OK {
			t.Fatalf("P302: %v: %v", x.b, no)
		}
		l := Cut(given)
		if !bytes.Equal(room, was) {
			t.Errorf("P2: %v, was %v", room, was)
		}
		clear(room)
		if !same(e, x.e) || string(l[0]) != x.b {
			t.Errorf("P2: %+v and %q were kept in what was handed in", e, l[0])
		}
	}
}

func TestP2EventHandedInStays(t *testing.T) {
	for _, e := range append(sound(), api.Event{Kind: 9, R: soundRoute()}, api.Event{Kind: 2, R: api.Route{Targets: make([]api.Target, 9)}}) {
		room := append(slices.Clone(e.R.Targets), api.Target{Rev: "spare-1", Percent: 3})
		was := slices.Clone(room)
		e.R.Targets = room[:len(room)-1]
		Check(e)
		b := Bytes(e)
		if !reflect.DeepEqual(room, was) {
			t.Errorf("P2: %+v, was %+v", room, was)
		}
		written := bytes.Clone(b)
		clear(room)
		if !bytes.Equal(b, written) {
			t.Errorf("P2: %v, was %v", b, written)
		}
	}
}

func TestP2PiecesShareNothing(t *testing.T) {
	given := []byte("\x00\x03abc\x00\x02de\x00\x00\x00\x01f\x00\x09gh")
	l := Cut(given)
	for i := range l {
		whole := l[i][:cap(l[i])]
		for j := range whole {
			whole[j] = byte(0xf0 + i)
		}
	}
	if string(given) != "\x00\x03abc\x00\x02de\x00\x00\x00\x01f\x00\x09gh" {
		t.Errorf("P2: %q", given)
	}
	for i := range l {
		for _, x := range l[i][:cap(l[i])] {
			if x != byte(0xf0+i) {
				t.Errorf("P2: piece %d shares its memory", i)
			}
		}
	}
}

func TestP2AnswersAreNew(t *testing.T) {
	for _, x := range written() {
		one, two := Bytes(x.e), Bytes(x.e)
		clear(one[:cap(one)])
		if string(two) != x.b || string(Bytes(x.e)) != x.b {
			t.Errorf("P2: of %+v bytes are answered twice", x.e)
		}
		a, _ := Parse(two)
		b, _ := Parse(two)
		if len(a.R.Targets) > 0 && unsafe.SliceData(a.R.Targets) == unsafe.SliceData(b.R.Targets) {
			t.Error("P2: Targets are answered twice")
		}
	}
}

func TestP3TheSameAgain(t *testing.T) {
	for _, x := range written() {
		for _, b := range []string{x.b, x.b + "x", x.b[1:]} {
			e, no := Parse([]byte(b))
			for range 3 {
				checkParse(t, []byte(b), e, no)
			}
		}
	}
}
