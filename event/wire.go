package event

import "damper/api"

// putNumber writes a number in so many bytes, the highest first.
func putNumber(b []byte, n, size int) []byte {
	for i := range size {
		b = append(b, byte(n>>(8*(size-1-i))))
	}
	return b
}

func putText(b []byte, s string) []byte {
	return append(putNumber(b, len(s), 1), s...)
}

func putConfig(b []byte, c api.Config) []byte {
	b = putText(b, c.Name)
	for _, n := range [...]int{c.Image, c.Conc, c.Min, c.Max, c.Grace} {
		b = putNumber(b, n, 1)
	}
	return b
}

func putRoute(b []byte, r api.Route) []byte {
	b = putText(putText(b, r.Name), r.Config)
	b = putNumber(putNumber(b, r.Roll, 1), len(r.Targets), 1)
	for _, t := range r.Targets {
		b = putNumber(putText(putText(b, t.Rev), t.Tag), t.Percent, 1)
	}
	return b
}

// reader takes bytes from the front. Where they lack, it takes what there is, and
// goes on with nothing, so that one question at the end is enough.
type reader struct {
	left   []byte
	lacked bool
}

// take takes so many bytes, as they lie in what is read.
func (r *reader) take(size int) []byte {
	if size > len(r.left) {
		size, r.lacked = len(r.left), true
	}
	taken := r.left[:size]
	r.left = r.left[size:]
	return taken
}

// end tells whether bytes have lacked, or are left.
func (r *reader) end() api.Errno {
	if r.lacked {
		return api.ErrCut
	}
	return unless(len(r.left) == 0, api.ErrMore)
}

func (r *reader) number(size int) int {
	n := 0
	for _, b := range r.take(size) {
		n = n<<8 | int(b)
	}
	return n
}

func (r *reader) text() string { return string(r.take(r.number(1))) }

// config, route lean on it that calls go from the left to the right.

func (r *reader) config() api.Config {
	return api.Config{
		Name: r.text(), Image: r.number(1), Conc: r.number(1), Min: r.number(1), Max: r.number(1), Grace: r.number(1),
	}
}

func (r *reader) route() api.Route {
	to := api.Route{Name: r.text(), Config: r.text(), Roll: r.number(1)}
	for range r.number(1) {
		to.Targets = append(to.Targets, api.Target{Rev: r.text(), Tag: r.text(), Percent: r.number(1)})
	}
	return to
}
