package vary

import (
	"encoding/binary"
	"math"
	"slices"
	"strings"
	"testing"
)

// edges are the numbers around which an encoding grows by one byte, and the ends of 64 bits.
func edges() []uint64 {
	l := []uint64{0, 1, 300, math.MaxInt64, 1 << 63, math.MaxUint64 - 1, math.MaxUint64}
	for shift := 7; shift < 64; shift += 7 {
		n := uint64(1) << shift
		l = append(l, n-1, n, n+1)
	}
	return l
}

// encoded is what the library of Go, which writes the same encoding, says.
func encoded(l ...uint64) string {
	var out []byte
	for _, n := range l {
		out = binary.AppendUvarint(out, n)
	}
	return string(out)
}

// notEncodings are byte sequences at whose start no encoding stands.
var notEncodings = []struct{ why, s string }{
	{"nothing", ""},
	{"not complete", "\x80"},
	{"not complete", "\xff"},
	{"not complete", "\xac\x82"},
	{"not complete, nine bytes", strings.Repeat("\x80", 9)},
	{"not complete, ten bytes", strings.Repeat("\x80", 10)},
	{"0 in two bytes", "\x80\x00"},
	{"0 in three bytes", "\x80\x80\x00"},
	{"127 in two bytes", "\xff\x00"},
	{"300 in three bytes", "\xac\x82\x00"},
	{"0 in ten bytes", strings.Repeat("\x80", 9) + "\x00"},
	{"63 bits in ten bytes", strings.Repeat("\xff", 9) + "\x00"},
	{"2^64", strings.Repeat("\x80", 9) + "\x02"},
	{"more than 64 bits, the lowest one of the tenth group set", strings.Repeat("\xff", 9) + "\x03"},
	{"70 bits", strings.Repeat("\xff", 9) + "\x7f"},
	{"2^70, eleven bytes", strings.Repeat("\x80", 10) + "\x01"},
	{"eleven bytes", strings.Repeat("\xff", 10) + "\x01"},
	{"64 bits in eleven bytes", strings.Repeat("\xff", 9) + "\x81\x00"},
	{"a hundred bytes", strings.Repeat("\x80", 99) + "\x01"},
}

// P1.1

func TestNumberAndLong(t *testing.T) {
	for _, c := range []struct {
		n uint64
		s string
	}{
		{0, "\x00"},
		{1, "\x01"},
		{127, "\x7f"},
		{128, "\x80\x01"},
		{300, "\xac\x02"},
		{1<<14 - 1, "\xff\x7f"},
		{1 << 14, "\x80\x80\x01"},
		{1<<63 - 1, "\xff\xff\xff\xff\xff\xff\xff\xff\x7f"},
		{1 << 63, "\x80\x80\x80\x80\x80\x80\x80\x80\x80\x01"},
		{math.MaxUint64, "\xff\xff\xff\xff\xff\xff\xff\xff\xff\x01"},
	} {
		if s := Number(c.n); s != c.s {
			t.Errorf("Number(%d): % x, want % x", c.n, s, c.s)
		}
		if n := Long(c.n); n != len(c.s) {
			t.Errorf("Long(%d): %d, want %d", c.n, n, len(c.s))
		}
	}
	for _, n := range edges() {
		want := encoded(n)
		if s := Number(n); s != want {
			t.Errorf("Number(%d): % x, want % x", n, s, want)
		}
		if got := Long(n); got != len(want) {
			t.Errorf("Long(%d): %d, want %d", n, got, len(want))
		}
	}
}

func TestText(t *testing.T) {
	for _, s := range []string{"", "a", "ab", "\x00", "\x80\xff", "größe", strings.Repeat("x", 127), strings.Repeat("x", 128), strings.Repeat("x", 1<<14)} {
		if got, want := Text(s), encoded(uint64(len(s)))+s; got != want {
			t.Errorf("Text of %d bytes: % x, want % x", len(s), got, want)
		}
	}
}

func TestJoin(t *testing.T) {
	for _, l := range [][]uint64{nil, {}, {0}, {0, 0}, {1, 300}, {300, 1}, {math.MaxUint64, 0, 128}, edges()} {
		if got, want := Join(l...), encoded(l...); got != want {
			t.Errorf("Join(%d): % x, want % x", l, got, want)
		}
	}
	if got := Join(); got != "" {
		t.Errorf("Join of nothing: % x", got)
	}
	l := edges()
	Join(l...)
	if !slices.Equal(l, edges()) {
		t.Errorf("Join changed its numbers: %d", l)
	}
}

// P1.2

func TestRead(t *testing.T) {
	for _, n := range edges() {
		for _, front := range []string{"", "\x00", "\x80", "\xff\xff\xff"} {
			for _, back := range []string{"", "\x00", "\x80", "\xff\x01"} {
				s := front + encoded(n) + back
				got, end, ok := Read(s, len(front))
				if want := len(s) - len(back); got != n || end != want || !ok {
					t.Errorf("Read(% x, %d): %d, %d, %t, want %d, %d, true", s, len(front), got, end, ok, n, want)
				}
			}
		}
	}
}

func TestReadOutsideOfTheString(t *testing.T) {
	for _, s := range []string{"", "\x01", "\x01\x02\x03"} {
		for _, at := range []int{math.MinInt, math.MinInt + 1, -2, -1, len(s), len(s) + 1, math.MaxInt - 1, math.MaxInt} {
			if n, end, ok := Read(s, at); n != 0 || end != 0 || ok {
				t.Errorf("Read(% x, %d): %d, %d, %t, want 0, 0, false", s, at, n, end, ok)
			}
			if r, end, ok := ReadText(s, at, 9); r != "" || end != 0 || ok {
				t.Errorf("ReadText(% x, %d): %q, %d, %t, want nothing, 0, false", s, at, r, end, ok)
			}
		}
	}
}

func TestReadOfNoEncoding(t *testing.T) {
	for _, c := range notEncodings {
		for _, front := range []string{"", "\x01", "\x80\x01"} {
			s := front + c.s
			if n, end, ok := Read(s, len(front)); n != 0 || end != 0 || ok {
				t.Errorf("Read, %s, % x at %d: %d, %d, %t, want 0, 0, false", c.why, s, len(front), n, end, ok)
			}
			if r, end, ok := ReadText(s, len(front), math.MaxInt); r != "" || end != 0 || ok {
				t.Errorf("ReadText, %s, % x at %d: %q, %d, %t, want nothing, 0, false", c.why, s, len(front), r, end, ok)
			}
		}
	}
}

func TestReadText(t *testing.T) {
	long := strings.Repeat("x", 300)
	for _, c := range []struct {
		s        string
		at, most int
		want     string
		end      int
		ok       bool
	}{
		{"\x02ab", 0, 2, "ab", 3, true},
		{"\x02ab", 0, math.MaxInt, "ab", 3, true},
		{"x\x02aby", 1, 2, "ab", 4, true},
		{"x\x02aby", 1, 1, "", 0, false},
		{"\x00", 0, 0, "", 1, true},
		{"\x00ab", 0, 0, "", 1, true},
		{"ab\x00", 2, 5, "", 3, true},
		{"\x00", 0, -1, "", 0, false},
		{"\x00", 0, math.MinInt, "", 0, false},
		{"\x01a", 0, 0, "", 0, false},
		{"\x01a", 0, -1, "", 0, false},
		{"\x01", 0, 1, "", 0, false},
		{"\x03ab", 0, 3, "", 0, false},
		{"ab\x03ab", 2, 9, "", 0, false},
		{"\x02\x80\xff", 0, 2, "\x80\xff", 3, true},
		{encoded(300) + long, 0, 300, long, 302, true},
		{encoded(300) + long, 0, 299, "", 0, false},
		{encoded(301) + long, 0, 301, "", 0, false},
		{encoded(math.MaxInt64) + "ab", 0, math.MaxInt, "", 0, false},
		{encoded(1<<63) + "ab", 0, math.MaxInt, "", 0, false},
		{encoded(1<<32+2) + "ab", 0, math.MaxInt, "", 0, false},
		{encoded(math.MaxUint64) + "ab", 0, math.MaxInt, "", 0, false},
		{encoded(math.MaxUint64) + "ab", 0, -1, "", 0, false},
		{encoded(math.MaxUint64-1) + "ab", 0, -1, "", 0, false},
	} {
		got, end, ok := ReadText(c.s, c.at, c.most)
		if got != c.want || end != c.end || ok != c.ok {
			t.Errorf("ReadText(% x, %d, %d): %q, %d, %t, want %q, %d, %t", c.s, c.at, c.most, got, end, ok, c.want, c.end, c.ok)
		}
	}
}

func TestSplit(t *testing.T) {
	for _, l := range [][]uint64{{}, {0}, {0, 0, 0}, {1, 300}, {math.MaxUint64, 0, 128}, edges()} {
		got, ok := Split(encoded(l...))
		if !slices.Equal(got, l) || !ok {
			t.Errorf("Split of the encodings of %d: %d, %t", l, got, ok)
		}
	}
}

func TestSplitOfNoEncodings(t *testing.T) {
	for _, c := range notEncodings {
		if c.s == "" {
			continue
		}
		for _, front := range []string{"", "\x01", "\xac\x02\x00"} {
			if l, ok := Split(front + c.s); len(l) != 0 || ok {
				t.Errorf("Split, %s, % x: %d, %t, want nothing, false", c.why, front+c.s, l, ok)
			}
		}
	}
	// What follows may complete an encoding, but does not mend one with too many bytes.
	if l, ok := Split("\x80\x00\x01"); len(l) != 0 || ok {
		t.Errorf("Split(80 00 01): %d, %t, want nothing, false", l, ok)
	}
}

// P1.3

// shortStrings calls do with every string of at most six bytes out of those at which a decoder may go wrong.
func shortStrings(do func(s string)) {
	var grow func(s string)
	grow = func(s string) {
		do(s)
		if len(s) == 6 {
			return
		}
		for _, b := range []byte{0x00, 0x01, 0x02, 0x7f, 0x80, 0x81, 0xff} {
			grow(s + string([]byte{b}))
		}
	}
	grow("")
}

// longStrings calls do with every string of two endings behind eight or more bytes that are not the last one.
func longStrings(do func(s string)) {
	for _, b := range []string{"\x80", "\x81", "\xff"} {
		for count := 8; count < 12; count++ {
			for end := range 1 << 16 {
				do(strings.Repeat(b, count) + string([]byte{byte(end), byte(end >> 8)}))
			}
		}
	}
}

func TestOnlyTheEncodingIsRead(t *testing.T) {
	check := func(s string) {
		n, end, ok := Read(s, 0)
		if ok && (end < 1 || end > len(s) || s[:end] != encoded(n)) {
			t.Fatalf("Read(% x, 0): %d, %d, true, but the encoding is % x", s, n, end, encoded(n))
		}
		text, end, ok := ReadText(s, 0, 4)
		if ok && (end < 1 || end > len(s) || len(text) > 4 || s[:end] != encoded(uint64(len(text)))+text) {
			t.Fatalf("ReadText(% x, 0, 4): % x, %d, true", s, text, end)
		}
		l, ok := Split(s)
		if ok && encoded(l...) != s {
			t.Fatalf("Split(% x): %d, true, but their encodings are % x", s, l, encoded(l...))
		}
	}
	shortStrings(check)
	longStrings(check)
}

func TestWhatWasEncodedIsRead(t *testing.T) {
	for _, n := range edges() {
		s := Number(n)
		if got, end, ok := Read(s, 0); got != n || end != len(s) || !ok {
			t.Errorf("Read(Number(%d), 0): %d, %d, %t", n, got, end, ok)
		}
	}
	for count := range 400 {
		text := strings.Repeat("\x80\x00", count)[count:]
		s := Text(text)
		if got, end, ok := ReadText(s, 0, count); got != text || end != len(s) || !ok {
			t.Errorf("ReadText of the Text of %d bytes: %d bytes, %d, %t", count, len(got), end, ok)
		}
	}
	l := edges()
	for i := range l {
		if got, ok := Split(Join(l[i:]...)); !slices.Equal(got, l[i:]) || !ok {
			t.Errorf("Split(Join(%d)): %d, %t", l[i:], got, ok)
		}
	}
}

func FuzzRead(f *testing.F) {
	for _, c := range notEncodings {
		f.Add(c.s, 0, 9)
	}
	f.Add("\xac\x02", 0, 0)
	f.Add("x\x02aby", 1, 2)
	f.Fuzz(func(t *testing.T, s string, at, most int) {
		n, end, ok := Read(s, at)
		if ok && s[at:end] != encoded(n) || !ok && (n != 0 || end != 0) {
			t.Errorf("Read(% x, %d): %d, %d, %t", s, at, n, end, ok)
		}
		text, end, ok := ReadText(s, at, most)
		if ok && (len(text) > most || s[at:end] != encoded(uint64(len(text)))+text) || !ok && (text != "" || end != 0) {
			t.Errorf("ReadText(% x, %d, %d): % x, %d, %t", s, at, most, text, end, ok)
		}
		l, ok := Split(s)
		if ok && encoded(l...) != s || !ok && len(l) != 0 {
			t.Errorf("Split(% x): %d, %t", s, l, ok)
		}
	})
}

// P1 and R5: size alone must neither stop a call nor slow it down out of proportion.
func TestLargeInputs(t *testing.T) {
	const count = 1 << 20
	l := make([]uint64, count)
	for i := range l {
		l[i] = uint64(i) * uint64(i)
	}
	got, ok := Split(Join(l...))
	if !slices.Equal(got, l) || !ok {
		t.Errorf("Split(Join) of %d numbers: %d numbers, %t", count, len(got), ok)
	}
	if l, ok := Split(strings.Repeat("\x80", count)); len(l) != 0 || ok {
		t.Errorf("Split of %d bytes without an end: %d numbers, %t", count, len(l), ok)
	}
	text := strings.Repeat("a", count)
	if got, end, ok := ReadText(Text(text), 0, count); got != text || end != count+Long(count) || !ok {
		t.Errorf("ReadText of the Text of %d bytes: %d bytes, %d, %t", count, len(got), end, ok)
	}
}

// The words of the document's examples.
func TestExamples(t *testing.T) {
	if got := Number(300); got != "\xac\x02" {
		t.Errorf("Number(300): % x", got)
	}
	if n, end, ok := Read("\x80\x00", 0); n != 0 || end != 0 || ok {
		t.Errorf("Read(80 00, 0): %d, %d, %t", n, end, ok)
	}
}
