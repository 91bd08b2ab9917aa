package lead

import (
	"fmt"
	"math"
	"math/rand"
	"reflect"
	"slices"
	"strconv"
	"strings"
	"testing"
	"unsafe"

	"damper/api"
	"damper/roll"
	"damper/spec"
	"damper/stamp"
	"damper/table"
)

// parsed is the table that a text tells: `a-1:30 b-1:70 t=a-1`.
func parsed(text string) (t api.Table) {
	for _, word := range strings.Fields(text) {
		if tag, rev, is := strings.Cut(word, "="); is {
			t.Tags = append(t.Tags, api.TagTo{Tag: tag, Rev: rev})
			continue
		}
		rev, weight, _ := strings.Cut(word, ":")
		n, err := strconv.Atoi(weight)
		if err != nil {
			panic(err)
		}
		t.Shares = append(t.Shares, api.Share{Rev: rev, Weight: n})
	}
	return t
}

// copyOf is of an empty list always nil.
func copyOf(t api.Table) api.Table {
	return api.Table{Shares: append([]api.Share(nil), t.Shares...), Tags: append([]api.TagTo(nil), t.Tags...)}
}

// book has revisions by their names, those that end in `!` proved.
func book(t *testing.T, revs ...string) *stamp.Book {
	t.Helper()
	b := stamp.New()
	for _, rev := range revs {
		name, proved := strings.CutSuffix(rev, "!")
		at := strings.LastIndex(name, "-")
		gen, _ := strconv.Atoi(name[at+1:])
		if got, is := b.Stamp(api.Config{Name: name[:at], Conc: 1, Max: 1}, gen); got != name || !is {
			t.Fatalf("Stamp of %s: %s, %v", rev, got, is)
		}
		if proved {
			b.Prove(name)
		}
	}
	return b
}

// route is one of web's whose Targets a text tells, each `rev percent tag` parted by
// commas, where rev and tag may be empty.
func route(text string) api.Route {
	r := api.Route{Name: "front", Config: "web"}
	for _, word := range strings.Fields(text) {
		l := strings.Split(word, ",")
		n, err := strconv.Atoi(l[1])
		if err != nil {
			panic(err)
		}
		r.Targets = append(r.Targets, api.Target{Rev: l[0], Percent: n, Tag: l[2]})
	}
	return r
}

func wantTable(t *testing.T, promise string, got api.Table, want string) {
	t.Helper()
	if s := table.Text(got); s != want {
		t.Fatalf("%s: %q, want %q", promise, s, want)
	}
	if want != "" && !table.Right(got) {
		t.Fatalf("P1303: %q is not right", want)
	}
}

// wantResolve: beside an error there is no table (P4).
func wantResolve(t *testing.T, r api.Route, b *stamp.Book, want string, no api.Errno) {
	t.Helper()
	got, e := Resolve(r, b)
	if e != no {
		t.Fatalf("P1301: Resolve(%+v): %v, want %v", r, e, no)
	}
	wantTable(t, fmt.Sprintf("P1301: Resolve(%+v)", r), got, want)
}

func TestP1301ByHand(t *testing.T) {
	b := book(t, "web-1!", "web-2", "web-3!", "web-9!", "web-10!", "web-11", "api-1!", "api-2", "web-a-7!", "we-5!")
	for _, x := range []struct{ targets, want string }{
		{",100,", "web-10:100"}, // the latest by number, and proved
		{"web-1,100,", "web-1:100"},
		{"api-1,100,", "api-1:100"}, // of another configuration
		{"web-10,100,", "web-10:100"},
		{"web-9,40, web-10,60,", "web-10:60 web-9:40"}, // by bytes, not by numbers
		{"web-10,60, web-9,40,", "web-10:60 web-9:40"},
		{"web-1,50, api-1,30, web-a-7,20,", "api-1:30 web-1:50 web-a-7:20"},
		{"web-a-7,20, web-9,20, we-5,20, web-1,20, web-10,20,", "we-5:20 web-1:20 web-10:20 web-9:20 web-a-7:20"},
		{"web-1,30, web-1,70,", "web-1:100"}, // added
		{"web-1,30, web-3,20, web-1,50,", "web-1:80 web-3:20"},
		{",10, web-10,20, ,30, web-10,40,", "web-10:100"}, // whichever way they lead there
		{",10, web-10,20, web-3,70,", "web-10:30 web-3:70"},
		{"web-1,1, web-3,99,", "web-1:1 web-3:99"},
		{"web-1,0, web-3,100,", "web-3:100"}, // none of 0
		{"web-1,100, web-3,0,", "web-1:100"},
		{",0, web-3,100,", "web-3:100"},
		{"web-1,0, web-1,0, web-3,100,", "web-3:100"},
		{"web-1,0, web-1,5, web-3,95,", "web-1:5 web-3:95"},
		{"web-1,5, web-1,0, web-3,95,", "web-1:5 web-3:95"},
		{"web-1,50, web-3,0, web-9,0, web-10,0, api-1,0, ,50,", "web-1:50 web-10:50"},
		{"web-1,20, web-3,20, web-9,20, web-10,20, api-1,10, we-5,10,", "api-1:10 we-5:10 web-1:20 web-10:20 web-3:20 web-9:20"},
		{",100,new", "web-10:100 new=web-10"},
		{"web-1,100,a", "web-1:100 a=web-1"},
		{"web-1,100, web-3,0,old", "web-1:100 old=web-3"}, // of 0, a tag is one all the same
		{"web-1,0,old ,100,", "web-10:100 old=web-1"},
		{",0,new web-1,100,", "web-1:100 new=web-10"},
		{"web-1,50,b web-3,50,a", "web-1:50 web-3:50 a=web-3 b=web-1"}, // by tags
		{"web-1,50,a web-1,50,b", "web-1:100 a=web-1 b=web-1"},
		{"web-10,0,z web-9,10,z9 web-3,20,z10 web-1,30,a api-1,40,z-1 ,0,abcdefgh", "api-1:40 web-1:30 web-3:20 web-9:10 a=web-1 abcdefgh=web-10 z=web-10 z-1=api-1 z10=web-3 z9=web-9"},
	} {
		wantResolve(t, route(x.targets), b, x.want, api.OK)
	}
}

// Neither the route's own name nor its Roll counts.
func TestP1301OfTheRouteAlone(t *testing.T) {
	b := book(t, "web-1!", "api-2!", "front-3!")
	for _, name := range []string{"web", "api", "front", "a"} {
		for _, to := range []int{0, 1, 60} {
			for config, want := range map[string]string{"web": "web-1:70 api-2:30", "api": "api-2:100", "front": "api-2:30 front-3:70"} {
				r := route(",70, api-2,30,")
				r.Name, r.Config, r.Roll = name, config, to
				if config == "web" {
					want = "api-2:30 web-1:70"
				}
				wantResolve(t, r, b, want, api.OK)
			}
		}
	}
}

func TestP1301LatestProved(t *testing.T) {
	b := book(t, "api-1!", "we-1!", "webb-1!", "web-a-1!")
	wantResolve(t, route(",100,"), b, "", api.ErrState) // no revision of it
	stamped := func(gen int) {
		if _, is := b.Stamp(api.Config{Name: "web", Conc: 1, Max: 1}, gen); !is {
			t.Fatal(gen)
		}
	}
	stamped(9)
	wantResolve(t, route(",100,"), b, "", api.ErrState) // none that is proved
	b.Prove("web-9")
	wantResolve(t, route(",100,"), b, "web-9:100", api.OK)
	stamped(10)
	wantResolve(t, route(",100,"), b, "web-9:100", api.OK)
	stamped(8)
	b.Prove("web-8")
	wantResolve(t, route(",100,"), b, "web-9:100", api.OK) // not what was proved last
	b.Prove("web-10")
	wantResolve(t, route(",100,"), b, "web-10:100", api.OK)
	stamped(999999)
	b.Prove("web-999999")
	wantResolve(t, route(",50, web-10,50,"), b, "web-10:50 web-999999:50", api.OK)
}

func TestP1301Errors(t *testing.T) {
	b := book(t, "web-1!", "web-2", "api-1", "api-2")
	ofAPI := func(text string) api.Route {
		r := route(text)
		r.Config = "api"
		return r
	}
	for _, x := range []struct {
		r  api.Route
		no api.Errno
	}{
		{route("web-2,100,"), api.ErrState}, {route("web-3,100,"), api.ErrNone}, {route("api-1,100,"), api.ErrState}, {route("none-1,100,"), api.ErrNone},
		{route("web-11,100,"), api.ErrNone}, {route("web-999999,100,"), api.ErrNone}, {route("we-1,100,"), api.ErrNone}, {ofAPI(",100,"), api.ErrState},
		{route("web-3,50, web-2,50,"), api.ErrNone}, {route("web-2,50, web-3,50,"), api.ErrState}, // the first one's
		{ofAPI(",50, web-3,50,"), api.ErrState}, {ofAPI("web-3,50, ,50,"), api.ErrNone},
		{route("web-1,50, web-2,50,"), api.ErrState}, {route("web-1,50, ,20, web-1,20, web-3,10,"), api.ErrNone},
		{route("web-1,100, web-2,0,"), api.ErrState}, {route("web-1,100, web-3,0,"), api.ErrNone}, // of 0, too
		{route("web-1,100, web-2,0,t"), api.ErrState}, {route("web-1,100, web-3,0,t"), api.ErrNone},
		{ofAPI("web-1,100, ,0,"), api.ErrState}, {ofAPI(",0,t web-1,100,"), api.ErrState},
		{route("web-1,20, web-1,20, web-1,20, web-1,20, web-1,20, web-3,0,"), api.ErrNone},
	} {
		wantResolve(t, x.r, b, "", x.no)
	}
	wantResolve(t, ofAPI("web-1,100,"), b, "web-1:100", api.OK) // none asks for api's
}

// resolved is P1301 in another form: of each revision there is, and each tag that
// there may be, it asks the route.
func resolved(r api.Route, made, proved, tags []string) (string, api.Errno) {
	latest, top := "", 0
	for _, rev := range proved {
		at := strings.LastIndex(rev, "-")
		if gen, _ := strconv.Atoi(rev[at+1:]); rev[:at] == r.Config && gen > top {
			latest, top = rev, gen
		}
	}
	to := map[int]string{}
	for i, t := range r.Targets {
		to[i] = t.Rev
		if t.Rev == "" {
			to[i] = latest
		}
		switch {
		case to[i] == "":
			return "", api.ErrState
		case !slices.Contains(made, to[i]):
			return "", api.ErrNone
		case !slices.Contains(proved, to[i]):
			return "", api.ErrState
		}
	}
	var words []string
	slices.Sort(made)
	for _, rev := range made {
		weight := 0
		for i, t := range r.Targets {
			if to[i] == rev {
				weight += t.Percent
			}
		}
		if weight > 0 {
			words = append(words, rev+":"+strconv.Itoa(weight))
		}
	}
	slices.Sort(tags)
	for _, tag := range tags {
		if i := slices.IndexFunc(r.Targets, func(t api.Target) bool { return t.Tag == tag }); i >= 0 {
			words = append(words, tag+"="+to[i])
		}
	}
	return strings.Join(words, " "), api.OK
}

func revNames() []string {
	return []string{"a-1", "a-2", "a-9", "a-10", "a-1-1", "a-1-2", "b-1", "b-3"}
}

func tagNames() []string { return []string{"t", "t-1", "t1", "t10", "t9", "u"} }

// someRoute is any that spec.Route allows, of few names.
func someRoute(d *rand.Rand) api.Route {
	n := 1 + d.Intn(api.MaxTargets)
	cuts := []int{0, 100}
	for range n - 1 {
		cuts = append(cuts, d.Intn(6)*20)
	}
	slices.Sort(cuts)
	tags := d.Perm(len(tagNames()))
	r := api.Route{Name: "r", Config: []string{"a", "a-1", "b"}[d.Intn(3)], Roll: d.Intn(61)}
	for i := range n {
		t := api.Target{Percent: cuts[i+1] - cuts[i]}
		if d.Intn(3) > 0 {
			t.Rev = revNames()[d.Intn(len(revNames()))]
		}
		if d.Intn(2) == 0 {
			t.Tag = tagNames()[tags[i]]
		}
		r.Targets = append(r.Targets, t)
	}
	return r
}

func TestP1301ByAnotherForm(t *testing.T) {
	d := rand.New(rand.NewSource(13))
	tells := map[api.Errno]int{}
	for range 20000 {
		var made, proved, stamps []string
		for _, i := range d.Perm(len(revNames())) {
			rev := revNames()[i]
			switch d.Intn(12) {
			case 0:
			case 1:
				made, stamps = append(made, rev), append(stamps, rev)
			default:
				made, proved, stamps = append(made, rev), append(proved, rev), append(stamps, rev+"!")
			}
		}
		r := someRoute(d)
		if e := spec.Route(r); e != api.OK {
			t.Fatalf("%+v: %v", r, e)
		}
		want, no := resolved(r, made, proved, tagNames())
		tells[no]++
		wantResolve(t, r, book(t, stamps...), want, no)
	}
	for _, e := range []api.Errno{api.OK, api.ErrNone, api.ErrState} {
		if tells[e] < 500 {
			t.Errorf("P1301: %v was told %d times", e, tells[e])
		}
	}
}

// P9: what may not be is refused with the error that it has for spec, whatever the
// book has.
func TestP9ResolveOfWhatMayNotBe(t *testing.T) {
	b := book(t, "web-1!", "web-2")
	change := func(f func(r *api.Route)) {
		t.Helper()
		for _, text := range []string{"web-1,100,", "web-1,50,a ,50,b", "web-2,100,", "web-3,100,"} {
			r := route(text)
			f(&r)
			if e := spec.Route(r); e != api.OK {
				wantResolve(t, r, b, "", e)
			} else {
				t.Fatalf("%+v may be", r)
			}
		}
	}
	for _, s := range []string{"", "-", "A", "1a", "web-", strings.Repeat("a", 17), "\xff", "w b"} {
		change(func(r *api.Route) { r.Name = s })
		change(func(r *api.Route) { r.Config = s })
		if s != "" {
			change(func(r *api.Route) { r.Targets[0].Rev = s })
			change(func(r *api.Route) { r.Targets[0].Tag = s })
		}
	}
	for _, n := range []int{math.MinInt, math.MinInt32, -100, -1, 101, 200, 1 << 32, math.MaxInt - 1, math.MaxInt} {
		change(func(r *api.Route) { r.Roll = n })
		change(func(r *api.Route) { r.Targets[0].Percent = n })
		change(func(r *api.Route) { r.Targets = append(r.Targets, api.Target{Rev: "web-1", Percent: n}) })
		change(func(r *api.Route) { // a hundred in all
			r.Targets = []api.Target{{Rev: "web-1", Percent: n}, {Rev: "web-1", Percent: 100 - n}}
		})
	}
	change(func(r *api.Route) { r.Targets = nil })
	change(func(r *api.Route) { r.Targets[0].Percent-- })
	change(func(r *api.Route) { r.Targets[0].Percent = 0 })
	change(func(r *api.Route) { r.Targets = append(r.Targets, r.Targets...) })
	change(func(r *api.Route) {
		r.Targets = slices.Concat(r.Targets, slices.Repeat([]api.Target{{Rev: "web-1"}}, 6))
	})
	change(func(r *api.Route) {
		r.Targets = []api.Target{{Rev: "web-1", Tag: "t", Percent: 50}, {Rev: "web-1", Tag: "t", Percent: 50}}
	})
	wantResolve(t, api.Route{}, b, "", api.ErrName)
	wantResolve(t, route("web-1,100,"), b, "web-1:100", api.OK)
}

func TestP1AnyRoute(t *testing.T) {
	texts := []string{"", "a", "a-1", "web", "web-1", "-", "\xff", strings.Repeat("a", 1<<16)}
	numbers := []int{math.MinInt, -1, 0, 1, 50, 100, math.MaxInt}
	for _, b := range []*stamp.Book{stamp.New(), {}, book(t, "web-1!", "a-1!")} {
		for _, s := range texts {
			for _, n := range numbers {
				for _, many := range []int{0, 1, 2, 7, 1 << 10} {
					r := api.Route{Name: s, Config: s, Roll: n, Targets: slices.Repeat([]api.Target{{Rev: s, Tag: s, Percent: n}}, many)}
					Resolve(r, b)
					r.Name, r.Config, r.Roll = "a", "a", 0
					Resolve(r, b)
				}
			}
		}
	}
}

// P2: what is handed in is not changed, nor is its spare room; nor is the book.
func TestP2ResolveChangesNothing(t *testing.T) {
	b := book(t, "web-1!", "web-2!", "web-3")
	for _, text := range []string{"web-2,30,b web-1,20,a ,50,", "web-2,60, web-3,40,", "web-9,60, web-3,40,", "web-1,30, web-1,30,"} {
		r := route(text)
		r.Targets = append(r.Targets, api.Target{Rev: "spare-1", Tag: "spare", Percent: 7})
		was := slices.Clone(r.Targets)
		r.Targets = r.Targets[:len(was)-1]
		one, e := Resolve(r, b)
		two, again := Resolve(r, b)
		if e != again || !reflect.DeepEqual(one, two) {
			t.Errorf("P3: %s: not the same again", text)
		}
		if !slices.Equal(r.Targets[:len(was)], was) || r.Name != "front" || r.Config != "web" || r.Roll != 0 {
			t.Errorf("P2: %s: %+v", text, r)
		}
	}
	made, ready := b.Latest("web")
	if !slices.Equal(b.All(), []string{"web-1", "web-2", "web-3"}) || b.Proved("web-3") || made != "web-3" || ready != "web-2" {
		t.Errorf("P2: the book has changed: %q", b.All())
	}
}

// spoil writes over all of a table's memory, its spare room too.
func spoil(t api.Table) {
	for i := range t.Shares[:cap(t.Shares)] {
		t.Shares[:cap(t.Shares)][i] = api.Share{Rev: "spoilt-1", Weight: -1}
	}
	for i := range t.Tags[:cap(t.Tags)] {
		t.Tags[:cap(t.Tags)][i] = api.TagTo{Tag: "spoilt", Rev: "spoilt-1"}
	}
}

// textsOf are all of a table's.
func textsOf(t api.Table) (l []string) {
	for _, s := range t.Shares {
		l = append(l, s.Rev)
	}
	for _, to := range t.Tags {
		l = append(l, to.Tag, to.Rev)
	}
	return l
}

// wantNoneShared: no two of the texts are at one place.
func wantNoneShared(t *testing.T, texts []string) {
	t.Helper()
	at := map[*byte]string{}
	for _, s := range texts {
		if _, is := at[unsafe.StringData(s)]; is {
			t.Errorf("P2: %q is told twice, or was handed in", s)
		}
		at[unsafe.StringData(s)] = s
	}
}

func TestP2ResolveAnswersNewMemory(t *testing.T) {
	b, r := book(t, "web-1!", "web-2!"), route("web-1,30,b web-1,20,a ,50,c")
	one, _ := Resolve(r, b)
	two, _ := Resolve(r, b)
	handed := []string{r.Name, r.Config}
	for _, to := range r.Targets {
		handed = append(handed, to.Tag)
		if to.Rev != "" {
			handed = append(handed, to.Rev)
		}
	}
	wantNoneShared(t, append(slices.Compact(handed), append(textsOf(one), textsOf(two)...)...))
	spoil(one)
	wantTable(t, "P2", two, "web-1:50 web-2:50 a=web-1 b=web-1 c=web-2")
	wantResolve(t, r, b, "web-1:50 web-2:50 a=web-1 b=web-1 c=web-2", api.OK)
}

// calls are a Roller's, or those of what is held against one.
type calls interface {
	Turn(name string, t api.Table, now, whole int) api.Table
	Table(name string) (api.Table, bool)
	Drop(name string)
}

// wantTurn makes a turn, and asks for the table behind it.
func wantTurn(t *testing.T, r calls, name, to string, now, whole int, want string) {
	t.Helper()
	got := r.Turn(name, parsed(to), now, whole)
	wantTable(t, fmt.Sprintf("P1302: Turn(%.40q, %q, %d, %d)", name, to, now, whole), got, want)
	wantHas(t, r, name, want)
}

// wantHas: of an empty text there is no table, and none is told beside the false (P4).
func wantHas(t *testing.T, r calls, name, want string) {
	t.Helper()
	got, is := r.Table(name)
	if is != (want != "") {
		t.Fatalf("P1302: Table(%.40q): %v, want %q", name, is, want)
	}
	wantTable(t, fmt.Sprintf("P1302: Table(%.40q)", name), got, want)
}

// names are any texts: a roller asks of none whether it is a name.
func names() []string {
	return []string{"", "r", "q", "front", "r-1", "R", "r ", "\xff", "\x00", "é", "-", strings.Repeat("r", 1<<16)}
}

func TestExample(t *testing.T) {
	for _, name := range names() {
		wantHas(t, New(), name, "")
	}
}

// turn is one by hand: what is handed in, and what is told.
type turn struct {
	to         string
	now, whole int
	want       string
}

func wantTurns(t *testing.T, l ...turn) {
	t.Helper()
	r := New()
	for _, x := range l {
		wantTurn(t, r, "r", x.to, x.now, x.whole, x.want)
	}
}

func TestP1302FirstTable(t *testing.T) {
	for _, to := range []string{"a-1:100", "a-1:30 a-2:70", "a-1:1 a-2:99 t=a-3 u=a-1"} {
		for _, whole := range []int{0, 1, 10, 1000000} {
			for _, now := range []int{0, 1, 999999, 1000000} {
				r := New()
				wantHas(t, r, "r", "")
				wantTurn(t, r, "r", to, now, whole, to) // at once
				wantTurn(t, r, "r", to, now, whole, to)
				wantTurn(t, r, "r", to, 1000000, whole, to)
			}
		}
	}
}

func TestP1302OnTheWay(t *testing.T) {
	const one, two = "a-1:100", "a-2:100"
	wantTurns(t, turn{one, 5, 10, one}, turn{two, 7, 10, one}, // from now on, not from when it was turned last
		turn{two, 7, 10, one}, turn{two, 8, 10, "a-1:90 a-2:10"}, turn{two, 8, 10, "a-1:90 a-2:10"}, turn{two, 9, 10, "a-1:80 a-2:20"},
		turn{two, 16, 10, "a-1:10 a-2:90"}, turn{two, 17, 10, two}, turn{two, 18, 10, two}, turn{two, 1000000, 10, two})
	wantTurns(t, turn{one, 0, 3, one}, turn{two, 0, 3, one}, turn{two, 1, 3, "a-1:67 a-2:33"}, turn{two, 2, 3, "a-1:34 a-2:66"}, turn{two, 3, 3, two})
	wantTurns(t, turn{one, 0, 1000000, one}, turn{two, 0, 1000000, one}, turn{two, 9999, 1000000, one}, turn{two, 10000, 1000000, "a-1:99 a-2:1"},
		turn{two, 999999, 1000000, "a-1:1 a-2:99"}, turn{two, 1000000, 1000000, two})
	wantTurns(t, turn{one, 5, 10, one}, turn{two, 7, 10, one}, turn{two, 40, 10, two}, turn{one, 50, 10, two}, turn{one, 55, 10, "a-1:50 a-2:50"})
	wantTurns(t, turn{one, 5, 10, one}, turn{one, 95, 10, one}, turn{two, 100, 10, one}, turn{two, 101, 10, "a-1:90 a-2:10"})
	wantTurns(t, turn{one, 5, 1, one}, turn{two, 5, 1, one}, turn{two, 6, 1, two})
	wantTurns(t, turn{"a-1:50 a-2:50", 0, 4, "a-1:50 a-2:50"}, turn{"a-2:10 a-3:90", 1, 4, "a-1:50 a-2:50"}, turn{"a-2:10 a-3:90", 2, 4, "a-1:28 a-2:50 a-3:22"},
		turn{"a-2:10 a-3:90", 4, 4, "a-2:33 a-3:67"}, turn{"a-2:10 a-3:90", 5, 4, "a-2:10 a-3:90"})
}

func TestP1302NoWhole(t *testing.T) {
	const one, two = "a-1:100", "a-2:100"
	wantTurns(t, turn{one, 0, 0, one}, turn{two, 0, 0, two}, turn{one, 0, 0, one}, turn{two, 9, 0, two}, turn{one, 10, 5, two}, turn{one, 11, 5, "a-1:20 a-2:80"},
		turn{one, 11, 0, one}, turn{two, 11, 5, one})
}

// From the table as it was told last, not as it would be now, nor from where the way
// ahead came from, or led to.
func TestP1302TurnedOnTheWay(t *testing.T) {
	const one, two, three = "a-1:100", "a-2:100", "a-3:100"
	wantTurns(t, turn{one, 0, 10, one}, turn{two, 0, 10, one}, turn{two, 3, 10, "a-1:70 a-2:30"}, turn{three, 8, 10, "a-1:70 a-2:30"},
		turn{three, 9, 10, "a-1:60 a-2:30 a-3:10"}, turn{three, 16, 10, "a-2:20 a-3:80"}, turn{three, 18, 10, three})
	wantTurns(t, turn{one, 0, 10, one}, turn{two, 0, 10, one}, turn{two, 3, 10, "a-1:70 a-2:30"}, turn{one, 5, 10, "a-1:70 a-2:30"}, // and back
		turn{one, 10, 10, "a-1:85 a-2:15"}, turn{two, 10, 10, "a-1:85 a-2:15"}, turn{two, 15, 10, "a-1:43 a-2:57"}, turn{two, 20, 10, two})
	wantTurns(t, turn{one, 0, 10, one}, turn{two, 0, 10, one}, turn{two, 5, 10, "a-1:50 a-2:50"}, turn{"a-1:50 a-2:50", 6, 10, "a-1:50 a-2:50"}, // to where it is
		turn{"a-1:50 a-2:50", 30, 10, "a-1:50 a-2:50"}, turn{two, 31, 10, "a-1:50 a-2:50"}, turn{two, 36, 10, "a-1:25 a-2:75"})
	wantTurns(t, turn{one, 0, 10, one}, turn{two, 0, 10, one}, turn{one, 9, 10, one}, turn{one, 12, 10, one}, turn{two, 12, 10, one}, turn{two, 13, 10, "a-1:90 a-2:10"})
}

// What was handed in last counts, not what was told last: weights, too.
func TestP1302WhichAreOthers(t *testing.T) {
	wantTurns(t, turn{"a-1:40 a-2:60", 0, 10, "a-1:40 a-2:60"}, turn{"a-1:60 a-2:40", 0, 10, "a-1:40 a-2:60"}, turn{"a-1:60 a-2:40", 5, 10, "a-1:50 a-2:50"},
		turn{"a-1:50 a-2:50", 5, 10, "a-1:50 a-2:50"}, turn{"a-1:60 a-2:40", 6, 10, "a-1:50 a-2:50"}, turn{"a-1:60 a-2:40", 11, 10, "a-1:55 a-2:45"})
	wantTurns(t, turn{"a-1:40 a-2:60", 0, 10, "a-1:40 a-2:60"}, turn{"a-1:40 a-3:60", 0, 10, "a-1:40 a-2:60"}, turn{"a-1:40 a-3:60", 5, 10, "a-1:40 a-2:30 a-3:30"},
		turn{"a-1:40 a-2:1 a-3:59", 5, 10, "a-1:40 a-2:30 a-3:30"}, turn{"a-1:40 a-2:1 a-3:59", 10, 10, "a-1:40 a-2:16 a-3:44"})
}

func TestP1302WholeIsAnother(t *testing.T) {
	const one, two = "a-1:100", "a-2:100"
	wantTurns(t, turn{one, 0, 10, one}, turn{two, 0, 10, one}, turn{two, 4, 10, "a-1:60 a-2:40"}, turn{two, 6, 20, "a-1:60 a-2:40"}, // anew, from what was told
		turn{two, 16, 20, "a-1:30 a-2:70"}, turn{two, 17, 10, "a-1:30 a-2:70"}, turn{two, 22, 10, "a-1:15 a-2:85"}, turn{two, 27, 10, two})
	wantTurns(t, turn{one, 0, 10, one}, turn{two, 0, 10, one}, turn{two, 4, 0, two}, turn{two, 5, 10, two})
	wantTurns(t, turn{one, 0, 0, one}, turn{two, 0, 10, one}, turn{two, 4, 10, "a-1:60 a-2:40"}, turn{two, 4, 1, "a-1:60 a-2:40"}, turn{two, 5, 1, two})
	wantTurns(t, turn{one, 0, 10, one}, turn{one, 3, 20, one}, turn{two, 4, 20, one}, turn{two, 14, 20, "a-1:50 a-2:50"})
}

// Tags are told at once, and turn no way.
func TestP1302Tags(t *testing.T) {
	wantTurns(t, turn{"a-1:100 t=a-1", 0, 10, "a-1:100 t=a-1"}, turn{"a-2:100 u=a-9", 0, 10, "a-1:100 u=a-9"}, turn{"a-2:100 t=a-2 u=a-9", 4, 10, "a-1:60 a-2:40 t=a-2 u=a-9"},
		turn{"a-2:100", 5, 10, "a-1:50 a-2:50"}, turn{"a-2:100 t=a-7", 6, 10, "a-1:40 a-2:60 t=a-7"}, turn{"a-2:100 t=a-8", 6, 10, "a-1:40 a-2:60 t=a-8"},
		turn{"a-2:100 t=a-8", 6, 20, "a-1:40 a-2:60 t=a-8"}, turn{"a-2:100", 26, 20, "a-2:100"}, turn{"a-2:100 z=a-1", 27, 20, "a-2:100 z=a-1"})
}

func TestP1302Drop(t *testing.T) {
	const one, two = "a-1:100 t=a-1", "a-2:100"
	r := New()
	r.Drop("r")
	wantHas(t, r, "r", "")
	wantTurn(t, r, "r", one, 0, 10, one)
	wantTurn(t, r, "q", one, 0, 10, one)
	wantTurn(t, r, "r", two, 0, 10, "a-1:100")
	wantTurn(t, r, "r", two, 5, 10, "a-1:50 a-2:50")
	r.Drop("r")
	r.Drop("none")
	wantHas(t, r, "r", "")
	wantHas(t, r, "q", one)
	wantTurn(t, r, "r", two, 5, 10, two) // as if it never had one
	wantTurn(t, r, "q", two, 6, 10, "a-1:100")
	r.Drop("r")
	r.Drop("r")
	wantHas(t, r, "r", "")
	wantTurn(t, r, "r", one, 8, 10, one)
	wantTurn(t, r, "r", one, 9, 10, one)
	wantTurn(t, r, "q", two, 10, 10, "a-1:60 a-2:40")
	r.Drop("q")
	wantHas(t, r, "q", "")
	wantHas(t, r, "r", one)
}

// Each name has its own way, whatever text it is.
func TestP1302NamesApart(t *testing.T) {
	r := New()
	way := func(i int) (one, two string) {
		return fmt.Sprintf("a-%d:100", i+1), fmt.Sprintf("b-%d:100 t%d=b-1", i+1, i)
	}
	for i, name := range names() {
		one, _ := way(i)
		wantHas(t, r, name, "")
		wantTurn(t, r, name, one, i, 20, one)
	}
	for i, name := range names() {
		one, two := way(i)
		wantTurn(t, r, name, two, 20+i, 20+i, one+fmt.Sprintf(" t%d=b-1", i))
	}
	for i, name := range names() {
		gone := (40 - 20 - i) * 100 / (20 + i)
		_, two := way(i)
		want := fmt.Sprintf("a-%d:%d b-%d:%d t%d=b-1", i+1, 100-gone, i+1, gone, i)
		if gone == 100 {
			want = two
		}
		wantTurn(t, r, name, two, 40, 20+i, want)
	}
	for i, name := range names() {
		r.Drop(name)
		for j, other := range names() {
			if _, is := r.Table(other); is != (j > i) {
				t.Fatalf("P1302: Drop(%.40q): Table(%.40q): %v", name, other, is)
			}
		}
	}
}

// call is one of a Roller's that changes it: Turn, or Drop, where drop says so.
type call struct {
	name       string
	t          api.Table
	now, whole int
	drop       bool
}

// log is P1302 in another form: all calls that came, of which each answer is reckoned
// anew.
type log struct{ all []call }

func (l *log) Turn(name string, t api.Table, now, whole int) api.Table {
	l.all = append(l.all, call{name, copyOf(t), now, whole, false})
	got, _ := l.Table(name)
	return got
}

func (l *log) Drop(name string) { l.all = append(l.all, call{name: name, drop: true}) }

func (l *log) Table(name string) (api.Table, bool) {
	var mine []call
	for _, x := range l.all {
		if x.name == name {
			mine = append(mine, x)
		}
		if x.name == name && x.drop {
			mine = nil
		}
	}
	if len(mine) == 0 {
		return api.Table{}, false
	}
	return told(mine), true
}

// told is the table behind the last one of a route's turns: it seeks the one with which
// the way of the last one began.
func told(l []call) api.Table {
	last := l[len(l)-1]
	first := len(l) - 1
	for first > 0 && l[first-1].whole == last.whole && reflect.DeepEqual(l[first-1].t.Shares, last.t.Shares) {
		first--
	}
	from := last.t.Shares
	if first > 0 {
		from = told(l[:first]).Shares
	}
	return copyOf(api.Table{Shares: roll.Shares(from, last.t.Shares, last.now-l[first].now, last.whole), Tags: last.t.Tags})
}

// alike holds all that a roller tells of these names against what another one does.
func alike(t *testing.T, r, l calls, names ...string) {
	t.Helper()
	for _, name := range names {
		want, _ := l.Table(name)
		wantHas(t, r, name, table.Text(want))
	}
}

// both makes a call in each, and holds what they tell against each other.
func both(t *testing.T, r, l calls, x call) {
	t.Helper()
	if x.drop {
		r.Drop(x.name)
		l.Drop(x.name)
	} else {
		wantTurn(t, r, x.name, table.Text(x.t), x.now, x.whole, table.Text(l.Turn(x.name, x.t, x.now, x.whole)))
	}
}

// fewCalls are some of one route's that are far apart, and one of another's; how much
// time each of them takes is in now.
func fewCalls() []call {
	one, two := parsed("a-1:100"), parsed("a-2:100 t=a-1")
	return []call{
		{"r", one, 0, 8, false}, {"r", two, 0, 8, false}, {"r", two, 3, 8, false}, {"r", one, 2, 8, false}, {"r", two, 2, 5, false},
		{"r", parsed("a-1:50 a-3:50 u=a-3"), 1, 8, false}, {"r", two, 1, 0, false}, {name: "r", drop: true}, {"q", two, 1, 8, false},
	}
}

// In every order of up to five calls.
func TestP1302InEveryOrder(t *testing.T) {
	few := fewCalls()
	for n := range len(few) * len(few) * len(few) * len(few) * len(few) {
		r, l, now := New(), &log{}, 0
		for rest := n; rest > 0; rest /= len(few) {
			x := few[rest%len(few)]
			now += x.now
			x.now = now
			both(t, r, l, x)
		}
		alike(t, r, l, "r", "q", "none")
	}
}

// someTable is any right one, of few names.
func someTable(d *rand.Rand) (t api.Table) {
	l := revNames()
	slices.Sort(l)
	n := 1 + d.Intn(4)
	for len(l) > n {
		at := d.Intn(len(l))
		l = slices.Delete(l, at, at+1)
	}
	cuts := []int{0, 100}
	for _, c := range d.Perm(99)[:n-1] {
		cuts = append(cuts, c+1)
	}
	slices.Sort(cuts)
	for i, rev := range l {
		t.Shares = append(t.Shares, api.Share{Rev: rev, Weight: cuts[i+1] - cuts[i]})
	}
	for _, tag := range tagNames() {
		if d.Intn(4) == 0 {
			t.Tags = append(t.Tags, api.TagTo{Tag: tag, Rev: revNames()[d.Intn(len(revNames()))]})
		}
	}
	return t
}

// someCalls are any that may be, often the same as ahead but for the time.
func someCalls(d *rand.Rand, many int) (l []call) {
	now, last := d.Intn(3)*d.Intn(100), map[string]call{}
	for range many {
		x := call{name: []string{"r", "q", "", "r-1"}[d.Intn(4)]}
		now += d.Intn(4) * d.Intn(5)
		was, is := last[x.name]
		switch {
		case d.Intn(20) == 0:
			x.drop = true
		case is && d.Intn(4) > 0:
			x.t, x.whole = was.t, was.whole
		case is && d.Intn(2) == 0:
			x.t, x.whole = was.t, []int{0, 1, 10, 60}[d.Intn(4)]
		default:
			x.t, x.whole = someTable(d), []int{0, 1, 10, 60}[d.Intn(4)]
		}
		if !x.drop {
			x.now, last[x.name] = now, x
		}
		l = append(l, x)
	}
	return l
}

func TestP1302ByAnotherForm(t *testing.T) {
	d := rand.New(rand.NewSource(1302))
	for range 400 {
		r, l := New(), &log{}
		for _, x := range someCalls(d, 80) {
			both(t, r, l, x)
		}
		alike(t, r, l, "r", "q", "", "r-1", "none")
	}
}

// P1303: it is right at each time, and while a route goes one way, what is to grow does
// not fall, what is to lose does not grow.
func TestP1303RightAndOneWay(t *testing.T) {
	d := rand.New(rand.NewSource(1303))
	r, now := New(), 0
	last := r.Turn("r", someTable(d), now, 0)
	for range 300 {
		to, whole, start := someTable(d), d.Intn(61), last
		for at := 0; at <= 62; at += 1 + d.Intn(9) {
			got := r.Turn("r", to, now+at, whole)
			again, is := r.Table("r")
			if !table.Right(got) || !is || !table.Same(got, again) {
				t.Fatalf("P1303: %s, %s", table.Text(got), table.Text(again))
			}
			for _, rev := range revNames() {
				from, end := roll.Weight(start.Shares, rev), roll.Weight(to.Shares, rev)
				was, is := roll.Weight(last.Shares, rev), roll.Weight(got.Shares, rev)
				if end >= from && is < was || end <= from && is > was || is < min(from, end) || is > max(from, end) {
					t.Fatalf("P1303: %s to %s: %s from %d to %d", table.Text(start), table.Text(to), rev, was, is)
				}
			}
			last = got
		}
		now += 63
	}
}

// Of what Resolve tells, a roller has right tables, too.
func TestP1303OfResolved(t *testing.T) {
	d := rand.New(rand.NewSource(1))
	var revs []string
	for _, rev := range revNames() {
		revs = append(revs, rev+"!")
	}
	b, r := book(t, revs...), New()
	for now := range 5000 {
		x := someRoute(d)
		to, e := Resolve(x, b)
		if e != api.OK || !table.Right(to) {
			t.Fatalf("P1301: %+v: %s, %v", x, table.Text(to), e)
		}
		if got := r.Turn("r", to, now, x.Roll); !table.Right(got) {
			t.Fatalf("P1303: %s", table.Text(got))
		}
	}
}

func numbers() []int {
	return []int{math.MinInt, math.MinInt + 1, math.MinInt32, -1000001, -1000000, -1, 0, 1, 5, 10, 999999, 1000000, 1000001, math.MaxInt32, 1 << 32, 1<<32 + 1, math.MaxInt - 1, math.MaxInt}
}

// wrongTables are such as are not right.
func wrongTables() []api.Table {
	l := []api.Table{{}, {Shares: []api.Share{}, Tags: []api.TagTo{}}, {Shares: []api.Share{{}}}, {Shares: make([]api.Share, 1000)}, {Tags: make([]api.TagTo, 1000)}}
	for _, text := range []string{
		"a-1:99", "a-1:101", "a-1:50 a-1:50", "a-2:50 a-1:50", "a-1:0 a-2:100", "a-1:100 a-2:0", "a-1:-1 a-2:101", "a:100", "A-1:100", "a-01:100",
		"t=a-1", "a-1:100 t=a", "a-1:100 T=a-1", "a-1:100 u=a-1 t=a-1", "a-1:100 t=a-1 t=a-1", "a-1:100 =a-1", "a-1:100 t=", "a-1:100 abcdefghi=a-1",
		"a-1:9223372036854775807 a-2:9223372036854775807 a-3:102",
	} {
		l = append(l, parsed(text))
	}
	return l
}

func TestP1AnyTurn(t *testing.T) {
	sound := []api.Table{parsed("a-1:100"), parsed("a-2:100 t=a-1")}
	for _, r := range []*Roller{New(), {}} {
		for _, name := range names() {
			for _, x := range append(wrongTables(), sound...) {
				was := copyOf(x)
				for _, now := range numbers() {
					for _, whole := range numbers() {
						r.Turn(name, x, now, whole)
					}
				}
				if !reflect.DeepEqual(copyOf(x), was) {
					t.Fatalf("P2: %v, was %v", x, was)
				}
			}
			r.Table(name)
			r.Drop(name)
			r.Drop(name)
			wantHas(t, r, name, "")
		}
	}
}

func TestZeroRoller(t *testing.T) {
	r := &Roller{}
	r.Drop("r")
	wantHas(t, r, "r", "")
	wantTurn(t, r, "r", "a-1:100", 0, 10, "a-1:100")
	wantTurn(t, r, "r", "a-2:100", 0, 10, "a-1:100")
	wantTurn(t, r, "r", "a-2:100", 5, 10, "a-1:50 a-2:50")
	r.Drop("r")
	wantHas(t, r, "r", "")
}

// P9: what may not be is refused, not clamped: no table is told, and none has changed.
func TestP9TurnOfWhatMayNotBe(t *testing.T) {
	r, plain := New(), New()
	for _, x := range []*Roller{r, plain} {
		wantTurn(t, x, "r", "a-1:100", 2, 10, "a-1:100")
		wantTurn(t, x, "r", "a-2:100 t=a-9", 3, 10, "a-1:100 t=a-9")
		wantTurn(t, x, "r", "a-2:100 t=a-9", 5, 10, "a-1:80 a-2:20 t=a-9")
	}
	refused := func(x api.Table, now, whole int) {
		t.Helper()
		for _, name := range []string{"r", "q"} {
			if got := r.Turn(name, x, now, whole); !reflect.DeepEqual(got, api.Table{}) {
				t.Fatalf("P9: Turn(%q, %v, %d, %d) = %v", name, x, now, whole, got)
			}
			alike(t, r, plain, "r", "q")
		}
	}
	for _, x := range wrongTables() {
		refused(x, 6, 10)
		refused(x, 1000000, 0)
	}
	for _, n := range numbers() {
		for _, x := range []api.Table{parsed("a-2:100 t=a-9"), parsed("a-3:100")} {
			if n < 0 || n > 1000000 {
				refused(x, n, 10)
				refused(x, 6, n)
			}
			if n < 5 { // and the time ahead was 5
				refused(x, n, 10)
			}
		}
	}
	for _, x := range []*Roller{r, plain} { // neither did the refused ones' times go by
		wantTurn(t, x, "r", "a-2:100 t=a-9", 5, 10, "a-1:80 a-2:20 t=a-9")
		wantTurn(t, x, "q", "a-2:100", 6, 10, "a-2:100")
		wantTurn(t, x, "r", "a-2:100 t=a-9", 8, 10, "a-1:50 a-2:50 t=a-9")
		x.Drop("r")
		x.Drop("q")
	}
	refused(parsed("a-1:100"), 7, 0) // any time ahead: of another name, or of one that was dropped
	wantTurn(t, r, "r", "a-1:100", 8, 1000000, "a-1:100")
}

// bytesOf is a text whose bytes can be changed behind its back.
func bytesOf(s string) (string, []byte) {
	b := []byte(s)
	return unsafe.String(&b[0], len(b)), b
}

// P2: neither lists nor texts that are handed in are kept, or changed, or their spare
// room.
func TestP2TurnKeepsNothing(t *testing.T) {
	r := New()
	name, nameBytes := bytesOf("r")
	rev, revBytes := bytesOf("a-1")
	tag, tagBytes := bytesOf("t")
	to, toBytes := bytesOf("a-2")
	x := api.Table{Shares: []api.Share{{Rev: rev, Weight: 100}, {Rev: "spare-1", Weight: 7}}, Tags: []api.TagTo{{Tag: tag, Rev: to}, {Tag: "spare", Rev: "spare-2"}}}
	was := copyOf(x)
	x.Shares, x.Tags = x.Shares[:1], x.Tags[:1]
	for now := range 3 {
		got := r.Turn(name, x, now, 10)
		wantTable(t, "P1302", got, "a-1:100 t=a-2")
		wantNoneShared(t, append(textsOf(got), rev, tag, to))
	}
	if !slices.Equal(x.Shares[:2], was.Shares) || !slices.Equal(x.Tags[:2], was.Tags) {
		t.Fatalf("P2: %v", x)
	}
	for _, b := range [][]byte{nameBytes, revBytes, tagBytes, toBytes} {
		clear(b)
	}
	spoil(x)
	wantHas(t, r, "r", "a-1:100 t=a-2")
	wantTurn(t, r, "r", "a-1:100 t=a-2", 3, 10, "a-1:100 t=a-2")
	wantTurn(t, r, "r", "a-3:100", 4, 10, "a-1:100")
	wantTurn(t, r, "r", "a-3:100", 5, 10, "a-1:90 a-3:10")
	r.Drop("r")
	wantHas(t, r, "r", "")
}

func TestP2RollerAnswersNewMemory(t *testing.T) {
	const to = "a-1:10 a-2:20 a-3:70 t=a-1 u=a-1"
	r := New()
	r.Turn("r", parsed("a-1:40 a-2:60"), 0, 10)
	for now, want := range []string{"a-1:40 a-2:60 t=a-1 u=a-1", "a-1:33 a-2:60 a-3:7 t=a-1 u=a-1", "a-1:26 a-2:60 a-3:14 t=a-1 u=a-1"} {
		x := parsed(to)
		told := r.Turn("r", x, now, 10)
		one, _ := r.Table("r")
		two, _ := r.Table("r")
		wantNoneShared(t, slices.Concat(textsOf(told), textsOf(one), textsOf(two)))
		spoil(x)
		spoil(told)
		wantTable(t, "P2", one, want)
		spoil(one)
		wantTable(t, "P2", two, want)
		wantHas(t, r, "r", want)
	}
	for i, now := range []int{7, 10} { // where it comes from and goes to was not spoilt either
		wantTurn(t, r, "r", to, now, 10, []string{"a-1:10 a-2:41 a-3:49 t=a-1 u=a-1", to}[i])
	}
	x, _ := r.Table("r")
	r.Turn("r", parsed("b-1:100"), 10, 0)
	wantTable(t, "P2", x, to) // it stays, though the roller goes on
}

// P3: the same again; and to ask changes nothing.
func TestP3TheSameAgain(t *testing.T) {
	for seed := range int64(20) {
		l := someCalls(rand.New(rand.NewSource(seed)), 100)
		var tells []string
		for again := range 3 {
			r := New()
			for i, x := range l {
				for _, name := range []string{"r", "q", "", "none"}[:again] {
					r.Table(name)
				}
				var got string
				if x.drop {
					r.Drop(x.name)
				} else {
					got = table.Text(r.Turn(x.name, x.t, x.now, x.whole))
				}
				if again == 0 {
					tells = append(tells, got)
				} else if got != tells[i] {
					t.Fatalf("P3: %+v: %q, and ahead %q", x, got, tells[i])
				}
			}
		}
	}
}

func TestP7RollersSideBySide(t *testing.T) {
	one, two := New(), New()
	if one == two {
		t.Fatal("P7: one roller is answered twice")
	}
	wantTurn(t, one, "r", "a-1:100", 50, 10, "a-1:100")
	wantHas(t, two, "r", "")
	wantTurn(t, two, "r", "b-1:100 t=b-1", 0, 10, "b-1:100 t=b-1") // nor have they one time
	wantTurn(t, one, "r", "a-2:100", 50, 10, "a-1:100")
	wantTurn(t, two, "r", "b-2:100", 50, 10, "b-1:100")
	wantTurn(t, one, "r", "a-2:100", 55, 10, "a-1:50 a-2:50")
	wantHas(t, two, "r", "b-1:100")
	one.Drop("r")
	wantHas(t, one, "r", "")
	wantTurn(t, two, "r", "b-2:100", 59, 10, "b-1:10 b-2:90")
	wantHas(t, one, "r", "")
}

func TestP1302Many(t *testing.T) {
	const many = 20000
	r := New()
	name := func(i int) string { return "r" + strconv.Itoa(i) }
	for i := range many {
		wantTurn(t, r, name(i), "a-1:100", i, 100, "a-1:100")
	}
	for i := range many {
		wantTurn(t, r, name(i), "a-2:100", many, 100, "a-1:100")
	}
	for i := range many {
		wantTurn(t, r, name(i), "a-2:100", many+50, 100, "a-1:50 a-2:50")
	}
	var x api.Table
	for i := range 100 {
		x.Shares = append(x.Shares, api.Share{Rev: "a-" + strconv.Itoa(100+i), Weight: 1})
	}
	for i := range 50000 {
		x.Tags = append(x.Tags, api.TagTo{Tag: "t" + strconv.Itoa(100000+i), Rev: "a-1"})
	}
	if got := r.Turn("r0", x, many+50, 0); !table.Same(got, x) {
		t.Error("P1302: a long one")
	}
}
