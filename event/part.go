package event

import (
	"iter"

	"damper/api"
	"damper/label"
	"damper/spec"
)

const (
	maxNumber = 1<<31 - 1
	drops     = 2 // what an EDrop may take away
)

// part is one thing that an event has.
type part struct {
	clear func(e *api.Event)
	check func(e *api.Event) api.Errno
	write func(b []byte, e *api.Event) []byte
	read  func(r *reader, e *api.Event)
}

// form is what a value may be, and how it is written and read.
type form[T any] struct {
	check func(v T) api.Errno
	write func(b []byte, v T) []byte
	read  func(r *reader) T
}

// has is the part of an event that lies at a place, in a form.
func has[T any](at func(e *api.Event) *T, in form[T]) part {
	return part{
		clear: func(e *api.Event) {
			var zero T
			*at(e) = zero
		},
		check: func(e *api.Event) api.Errno { return in.check(*at(e)) },
		write: func(b []byte, e *api.Event) []byte { return in.write(b, *at(e)) },
		read:  func(r *reader, e *api.Event) { *at(e) = in.read(r) },
	}
}

// parts yields what a kind has, in the order in which it is asked, written and
// read; nothing of what is no kind.
func parts(kind int) iter.Seq[part] {
	return func(yield func(part) bool) {
		switch kind {
		case api.EConfig:
			_ = yield(has(numberOf, version())) && yield(has(configOf, config()))
		case api.ERoute:
			_ = yield(has(numberOf, version())) && yield(has(routeOf, route()))
		case api.EDrop:
			_ = yield(has(numberOf, number(1, drops))) && yield(has(nameOf, text(label.Name))) && yield(has(drawOf, version()))
		case api.EArrive:
			_ = yield(has(numberOf, number(1, maxNumber))) && yield(has(nameOf, text(label.Name))) &&
				yield(has(tagOf, text(tagOrNone))) && yield(has(drawOf, number(0, maxNumber)))
		case api.EDone, api.EUp, api.EFail, api.EKill:
			yield(has(numberOf, number(1, maxNumber)))
		case api.EStamp, api.ELead:
			yield(has(nameOf, text(label.Name)))
		case api.EScale, api.EFleet:
			yield(has(nameOf, text(revision)))
		}
	}
}

// The places of an event.

func numberOf(e *api.Event) *int { return &e.N }

func drawOf(e *api.Event) *int { return &e.Draw }

func nameOf(e *api.Event) *string { return &e.Name }

func tagOf(e *api.Event) *string { return &e.Tag }

func configOf(e *api.Event) *api.Config { return &e.C }

func routeOf(e *api.Event) *api.Route { return &e.R }

// number is the form of a number from least to most.
func number(least, most int) form[int] {
	return form[int]{
		check: func(n int) api.Errno { return unless(least <= n && n <= most, api.ErrArg) },
		write: func(b []byte, n int) []byte { return putNumber(b, n, 4) },
		read:  func(r *reader) int { return r.number(4) },
	}
}

func version() form[int] { return number(0, maxNumber) }

// text is the form of a text that may be.
func text(may func(s string) bool) form[string] {
	return form[string]{
		check: func(s string) api.Errno { return unless(may(s), api.ErrName) },
		write: putText,
		read:  (*reader).text,
	}
}

func config() form[api.Config] {
	return form[api.Config]{check: spec.Config, write: putConfig, read: (*reader).config}
}

func route() form[api.Route] {
	return form[api.Route]{check: spec.Route, write: putRoute, read: (*reader).route}
}

func tagOrNone(s string) bool { return s == "" || label.Tag(s) }

func revision(s string) bool {
	_, _, is := label.Split(s)
	return is
}

// unless is the error e, where what is asked for does not hold.
func unless(holds bool, e api.Errno) api.Errno {
	if holds {
		return api.OK
	}
	return e
}
