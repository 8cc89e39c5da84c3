package wire

import (
	"archipelago/api"
	"archipelago/past"
	"archipelago/stamp"
	"archipelago/vary"
)

// greatest is all sites as a set: no number outside of timestamps and pasts may be greater, so all others are refused ahead of any use of them.
const greatest = 1<<api.MaxSites - 1

// reader decodes the parts of s one after the other, up to the first one that it can't decode.
type reader struct {
	s  string
	at int
}

// done reports whether nothing is left.
func (r *reader) done() bool { return r.at == len(r.s) }

// number is the next part, a number of at most greatest.
func (r *reader) number() (int, bool) {
	n, ok := next(r, vary.Read)
	return int(n), ok && n <= greatest
}

// flag is the next part, 1 for true and 0 for false.
func (r *reader) flag() (bool, bool) {
	n, ok := r.number()
	return n == 1, ok && n <= 1
}

// parent is the next part, written as one more than it is.
func (r *reader) parent() (int, bool) {
	n, ok := r.number()
	return n - 1, ok
}

// text is the next part, a string.
func (r *reader) text() (string, bool) {
	// The length of s bounds nothing: keys and values that are too long are refused with all others that are not valid.
	return next(r, func(s string, at int) (string, int, bool) { return vary.ReadText(s, at, len(s)) })
}

// stamp is the next part, a valid timestamp.
func (r *reader) stamp() (api.Stamp, bool) { return next(r, stamp.Read) }

// past is the next part, a valid past.
func (r *reader) past() ([]api.Dep, bool) { return next(r, past.Read) }

// next is what a lower layer reads at the reader's place, which moves behind it.
func next[T any](r *reader, read func(s string, at int) (T, int, bool)) (T, bool) {
	x, end, ok := read(r.s, r.at)
	r.at = end
	return x, ok
}

// one decodes a part to its place.
func one[T any](place *T, part func() (T, bool)) bool {
	x, ok := part()
	*place = x
	return ok
}

// several decodes so many parts of one kind to the list at their place.
func several[T any](place *[]T, count int, part func() (T, bool)) bool {
	for range count {
		x, ok := part()
		if !ok {
			return false
		}
		*place = append(*place, x)
	}
	return true
}
