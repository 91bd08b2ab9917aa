package label

import (
	"math"
	"regexp"
	"strconv"
	"strings"
	"testing"
	"unsafe"
)

// The words of W1 once more, in another way than the package's, to hold it against.
var (
	nameForm = regexp.MustCompile(`\A[a-z](?:[a-z0-9-]{0,14}[a-z0-9])?\z`)
	tagForm  = regexp.MustCompile(`\A[a-z](?:[a-z0-9-]{0,6}[a-z0-9])?\z`)
	revForm  = regexp.MustCompile(`\A([a-z](?:[a-z0-9-]{0,14}[a-z0-9])?)-([1-9][0-9]{0,5})\z`)
)

// short calls f with each text of at most so many of the signs.
func short(signs []string, most int, f func(string)) {
	f("")
	if most == 0 {
		return
	}
	for _, a := range signs {
		short(signs, most-1, func(s string) { f(a + s) })
	}
}

func checkName(t *testing.T, s string, name, tag bool) {
	t.Helper()
	if got := Name(s); got != name {
		t.Errorf("P101: Name(%q) = %v", s, got)
	}
	if got := Tag(s); got != tag {
		t.Errorf("P101: Tag(%q) = %v", s, got)
	}
}

func checkSplit(t *testing.T, rev, config string, gen int, is bool) {
	t.Helper()
	if c, g, i := Split(rev); c != config || g != gen || i != is {
		t.Errorf("P101: Split(%q) = %q, %d, %v, want %q, %d, %v", rev, c, g, i, config, gen, is)
	}
}

// checkForms holds all that a text may be asked for against the forms above.
func checkForms(t *testing.T, s string) {
	t.Helper()
	checkName(t, s, nameForm.MatchString(s), tagForm.MatchString(s))
	m := revForm.FindStringSubmatch(s)
	if m == nil {
		checkSplit(t, s, "", 0, false)
		return
	}
	gen, err := strconv.Atoi(m[2])
	if err != nil {
		t.Fatal(err)
	}
	checkSplit(t, s, m[1], gen, true)
}

func TestP101NamesByHand(t *testing.T) {
	for _, s := range []string{"a", "z", "web", "a1", "a-b", "a--b", "a-1", "z0z9-0", "abcdefgh", "a------z"} {
		checkName(t, s, true, true)
	}
	for _, s := range []string{"abcdefghi", "a-------z", "abcdefghijklmnop", "a234567890123456", "a--------------z"} {
		checkName(t, s, true, false)
	}
	for _, s := range []string{
		"", "-", "--", "-a", "a-", "a-b-", "1", "0a", "1a", "A", "aB", "WEB", "a_b", "a.b", "a b", " a", "a ", "a\n", "a\x00", "\x00",
		"a\xff", "\xff", "é", "aé", "aéb", "\u0430", "a\u0430", "\uff41", "a\uff11", "a\u2013b", "a\ufffdb", "a\u0301", "\ufeffa", "a\xc1\xa1", "\u017f", "a\u212a",
		"abcdefghijklmnopq", "a---------------z", "abcdefghijklmnop-", "abcdefg-",
	} {
		checkName(t, s, false, false)
	}
}

func TestP101EveryByteAtEveryPlace(t *testing.T) {
	for size := 1; size <= 18; size++ {
		for at := 0; at < size; at++ {
			for b := 0; b < 256; b++ {
				s := strings.Repeat("m", at) + string([]byte{byte(b)}) + strings.Repeat("m", size-at-1)
				checkName(t, s, nameForm.MatchString(s), tagForm.MatchString(s))
			}
		}
	}
}

func TestP101EveryRune(t *testing.T) {
	for r := rune(0); r <= 0x10ffff; r++ {
		want := 'a' <= r && r <= 'z' || '0' <= r && r <= '9' || r == '-'
		if s := "m" + string(r) + "m"; Name(s) != want || Tag(s) != want {
			t.Fatalf("P101: %q: %v, %v", s, Name(s), Tag(s))
		}
		if s := "m-1" + string(r) + "1"; r > 127 {
			checkSplit(t, s, "", 0, false)
		}
	}
}

func TestP101Lengths(t *testing.T) {
	for _, sign := range []string{"z", "0", "-"} {
		for n := 0; n <= 40; n++ {
			checkForms(t, "a"+strings.Repeat(sign, n))
			checkForms(t, "a"+strings.Repeat(sign, n)+"z")
			checkForms(t, "a"+strings.Repeat(sign, n)+"-7")
			checkForms(t, "a"+strings.Repeat(sign, n)+"z-7")
		}
	}
	long := strings.Repeat("a", 1<<20)
	checkName(t, long, false, false)
	checkSplit(t, long, "", 0, false)
	checkSplit(t, long+"-1", "", 0, false)
	checkSplit(t, "a-"+strings.Repeat("1", 1<<20), "", 0, false)
	checkSplit(t, strings.Repeat("-", 1<<20), "", 0, false)
}

func TestP101ShortTexts(t *testing.T) {
	short([]string{"a", "z", "0", "1", "9", "-", "A", "\xff", "é"}, 5, func(s string) { checkForms(t, s) })
	short([]string{"a", "0", "1", "-"}, 8, func(s string) { checkForms(t, s) })
}

func TestP101Rev(t *testing.T) {
	z := strings.Repeat("z", 16)
	for _, x := range []struct {
		config string
		gen    int
		want   string
	}{
		{"web", 1, "web-1"}, {"a", 9, "a-9"}, {"a", 10, "a-10"}, {"a-b", 20, "a-b-20"}, {"a-1", 2, "a-1-2"}, {"a--b", 100, "a--b-100"},
		{"a", 999999, "a-999999"}, {"a", 999998, "a-999998"}, {"abcdefghi", 3, "abcdefghi-3"}, {z, 999999, z + "-999999"},
		{"a", 1000000, ""}, {"a", 0, ""}, {"a", -1, ""}, {"a", math.MaxInt, ""}, {"a", math.MinInt, ""},
		{"", 1, ""}, {"-", 1, ""}, {"a-", 1, ""}, {"-a", 1, ""}, {"1", 1, ""}, {"A", 1, ""}, {"é", 1, ""}, {"a\xff", 1, ""}, {z + "z", 1, ""}, {"", 0, ""},
	} {
		if got := Rev(x.config, x.gen); got != x.want {
			t.Errorf("P101: Rev(%q, %d) = %q, want %q", x.config, x.gen, got, x.want)
		}
	}
}

func TestP101Split(t *testing.T) {
	z := strings.Repeat("z", 16)
	checkSplit(t, "web-1", "web", 1, true)
	checkSplit(t, "a-999999", "a", 999999, true)
	checkSplit(t, "a-100000", "a", 100000, true)
	checkSplit(t, "a-10", "a", 10, true)
	checkSplit(t, "a-1-2", "a-1", 2, true) // by the last -
	checkSplit(t, "a--b-2", "a--b", 2, true)
	checkSplit(t, z+"-999999", z, 999999, true)
	for _, s := range []string{
		"", "-", "a", "a1", "web", "a-", "a-1-", "-1", "1-1", "A-1", "a b-1", "é-1", "a\xff-1", z + "z-1", "a--1", "a-b--1",
		"a-0", "a-00", "a-01", "a-000001", "a-1-0", "a-1-01", "a-1000000", "a-9999999", "a-4294967297", "a-18446744073709551617", "a-12345678901234567890",
		"a-+1", "a- 1", "a-1 ", "a-1\n", "a-1b", "a-b", "a-1_0", "a-0x1", "a-1.0", "a-1e1", "a-\uff11", "a-1\uff11", "a\u20101", "a-1\xff", "a-\x00", "a-1\x00", "web-1-web",
	} {
		checkSplit(t, s, "", 0, false)
	}
}

func TestP102PutTogetherIsPartedAsItWas(t *testing.T) {
	for gen := 1; gen <= 999999; gen++ {
		rev := Rev("a-1", gen)
		if config, n, is := Split(rev); config != "a-1" || n != gen || !is {
			t.Fatalf("P102: %q: %q, %d, %v", rev, config, n, is)
		}
	}
	names := 0
	short([]string{"a", "z", "0", "9", "-"}, 7, func(s string) {
		if !Name(s) {
			return
		}
		names++
		for _, gen := range []int{1, 9, 10, 90, 100000, 999999} {
			rev := Rev(s, gen)
			if config, n, is := Split(rev); config != s || n != gen || !is {
				t.Fatalf("P102: %q: %q, %d, %v", rev, config, n, is)
			}
		}
	})
	if names == 0 {
		t.Error("P102: no name was tried")
	}
}

func TestP102PartedIsPutTogetherAsItWas(t *testing.T) {
	short([]string{"a", "0", "1", "9", "-"}, 7, func(s string) {
		if config, gen, is := Split(s); is && Rev(config, gen) != s {
			t.Fatalf("P102: %q: %q, %d, together %q", s, config, gen, Rev(config, gen))
		}
	})
}

func TestP2AnswersAreNewMemory(t *testing.T) {
	given := "web-12"
	config, _, is := Split(given)
	if !is || config != "web" {
		t.Fatalf("P101: %q, %v", config, is)
	}
	if unsafe.StringData(config) == unsafe.StringData(given) {
		t.Error("P2: Split answers a piece of what it was given")
	}
}
