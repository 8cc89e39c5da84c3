// Package vary is layer 1: see shared/doc/01-vary.md.
package vary

const (
	// more is the bit that every byte of an encoding but the last one has.
	more = 0x80
	// longest is how many groups of seven bits cover 64 bits.
	longest = 10
)

// Number is the encoding of n.
func Number(n uint64) string { return Join(n) }

// Text is the encoding of the length of s, and then s.
func Text(s string) string { return Number(uint64(len(s))) + s }

// Long is how many bytes the encoding of n has.
func Long(n uint64) int {
	count := 1
	for n >= more {
		n >>= 7
		count++
	}
	return count
}

// Join is the encodings of all numbers, one after the other.
func Join(l ...uint64) string {
	// One buffer for all: adding string to string would copy the front of a long list over and over.
	out := make([]byte, 0, len(l))
	add := func(n uint64) {
		for n >= more {
			out = append(out, byte(n)|more)
			n >>= 7
		}
		out = append(out, byte(n))
	}
	for _, n := range l {
		add(n)
	}
	return string(out)
}

// Read is the number whose encoding begins at an offset of s, and the offset after it.
func Read(s string, at int) (n uint64, end int, ok bool) {
	if at < 0 || at > len(s) {
		return 0, 0, false
	}
	tail := s[at:]
groups:
	for i := range min(len(tail), longest) {
		b := tail[i]
		switch {
		case i == longest-1 && b > 1:
			// The groups ahead hold 63 bits: there is room for one more bit, and for no further byte.
			break groups
		case b >= more:
			n |= uint64(b-more) << (7 * i)
		case b == 0 && i > 0:
			// A last group of zeros adds nothing, so fewer bytes would do.
			break groups
		default:
			return n | uint64(b)<<(7*i), at + i + 1, true
		}
	}
	return 0, 0, false
}

// ReadText is the string of at most so many bytes whose Text begins at an offset of s, and the offset after it.
func ReadText(s string, at, most int) (t string, end int, ok bool) {
	n, start, ok := Read(s, at)
	// The length is held against both bounds as 64 bits without a sign: as an int a great one would turn negative.
	if !ok || most < 0 || n > uint64(most) || n > uint64(len(s)-start) {
		return "", 0, false
	}
	end = start + int(n)
	return s[start:end], end, true
}

// Split is the numbers whose encodings make up s.
func Split(s string) ([]uint64, bool) {
	var l []uint64
	for at := 0; at < len(s); {
		n, end, ok := Read(s, at)
		if !ok {
			return nil, false
		}
		l = append(l, n)
		at = end
	}
	return l, true
}
