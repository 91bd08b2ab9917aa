// Package label: names. See doc/01-label.md.
package label

import (
	"strconv"
	"strings"

	"damper/api"
)

const (
	maxTag = 8      // signs of a tag
	maxGen = 999999 // the greatest number in a revision's name
)

// Name tells whether s is a name (W1).
func Name(s string) bool { return named(s, api.MaxName) }

// Tag tells whether s is a name of few enough signs for a tag.
func Tag(s string) bool { return named(s, maxTag) }

// Rev puts a revision's name together; it is empty where the parts make none.
func Rev(config string, gen int) string {
	if !Name(config) || gen < 1 || gen > maxGen {
		return ""
	}
	return config + "-" + strconv.Itoa(gen)
}

// Split parts a revision's name; is tells whether it is one.
func Split(rev string) (config string, gen int, is bool) {
	at := strings.LastIndexByte(rev, '-') // the last one: the name ahead of it may hold others
	if at < 0 || !Name(rev[:at]) {
		return "", 0, false
	}
	gen, is = number(rev[at+1:])
	if !is {
		return "", 0, false
	}
	return strings.Clone(rev[:at]), gen, true // a clone, as a piece would share its memory with rev
}

// named tells whether s is a name of at most so many signs. Each sign that may
// be is one byte, so that a text of more bytes than most is none, whatever is in it.
func named(s string, most int) bool {
	if s == "" || len(s) > most || strings.HasSuffix(s, "-") {
		return false
	}
	for i, r := range s {
		if i == 0 && !letter(r) || !sign(r) {
			return false
		}
	}
	return true
}

// number reads the number of a revision's name, 1 to maxGen. strconv.Atoi is
// not asked, as it takes a sign and zeros ahead, and a 0.
func number(s string) (n int, is bool) {
	if s == "" || strings.HasPrefix(s, "0") {
		return 0, false
	}
	for _, r := range s {
		if !digit(r) {
			return 0, false
		}
		n = n*10 + int(r-'0')
		if n > maxGen { // at once, so that n never wraps round
			return 0, false
		}
	}
	return n, true
}

func letter(r rune) bool { return 'a' <= r && r <= 'z' }

func digit(r rune) bool { return '0' <= r && r <= '9' }

func sign(r rune) bool { return letter(r) || digit(r) || r == '-' }
