package stamp

import (
	"cmp"
	"encoding/binary"
	"math"
	"slices"
	"strings"
	"testing"

	"archipelago/api"
)

// numbers are those around which a timestamp begins and ends to be valid, or its encoding grows, and the ends of an int.
var numbers = []int{
	math.MinInt, math.MinInt + 1, -api.MaxStamp, -2, -1, 0, 1, 2, 3, 127, 128, 300, 1<<14 - 1, 1 << 14, 1<<35 - 1, 1 << 35,
	api.MaxStamp - 1, api.MaxStamp, api.MaxStamp + 1, math.MaxInt - 1, math.MaxInt,
}

// places are the sites, and numbers that are none.
var places = []int{math.MinInt, -1, 0, 1, 2, 3, 4, 5, 6, 7, 128, math.MaxInt}

// every is all timestamps of these numbers and places, valid or not.
func every() []api.Stamp {
	var l []api.Stamp
	for _, n := range numbers {
		for _, p := range places {
			l = append(l, api.Stamp{N: n, Site: p})
		}
	}
	return l
}

// validAgain says which timestamps are valid, in the words of the chapter.
func validAgain(s api.Stamp) bool {
	return 1 <= s.N && s.N <= 1<<40 && slices.Contains([]int{0, 1, 2, 3, 4, 5}, s.Site)
}

// compareAgain is the order by number, then by site, by means of the library.
func compareAgain(a, b api.Stamp) int {
	return cmp.Or(cmp.Compare(a.N, b.N), cmp.Compare(a.Site, b.Site))
}

// encoded is what the library of Go, which writes the same encoding, says.
func encoded(l ...uint64) string {
	var out []byte
	for _, n := range l {
		out = binary.AppendUvarint(out, n)
	}
	return string(out)
}

// P3.1

func TestCheck(t *testing.T) {
	for _, c := range []struct {
		n, site int
		want    bool
	}{
		{0, 0, false},
		{1, 0, true},
		{1, 5, true},
		{1, 6, false},
		{1, -1, false},
		{0, 1, false},
		{0, 5, false},
		{-1, 0, false},
		{3, 2, true},
		{1 << 40, 0, true},
		{1 << 40, 5, true},
		{1 << 40, 6, false},
		{1 << 40, -1, false},
		{1<<40 + 1, 0, false},
		{math.MaxInt, 0, false},
		{math.MinInt, 0, false},
		{3, math.MaxInt, false},
		{3, math.MinInt, false},
		{math.MinInt, math.MinInt, false},
		{math.MaxInt, math.MaxInt, false},
	} {
		if got := Check(api.Stamp{N: c.n, Site: c.site}); got != c.want {
			t.Errorf("Check of %d, site %d: %t, want %t", c.n, c.site, got, c.want)
		}
	}
	for _, s := range every() {
		if got, want := Check(s), validAgain(s); got != want {
			t.Errorf("Check(%v): %t, want %t", s, got, want)
		}
	}
}

func TestLess(t *testing.T) {
	for _, c := range []struct {
		a, b api.Stamp
		want bool
	}{
		{api.Stamp{}, api.Stamp{}, false},
		{api.Stamp{}, api.Stamp{N: 1}, true},
		{api.Stamp{N: 1}, api.Stamp{}, false},
		{api.Stamp{N: 3, Site: 1}, api.Stamp{N: 3, Site: 2}, true},
		{api.Stamp{N: 3, Site: 2}, api.Stamp{N: 3, Site: 1}, false},
		{api.Stamp{N: 3, Site: 2}, api.Stamp{N: 3, Site: 2}, false},
		{api.Stamp{N: 3, Site: 5}, api.Stamp{N: 4, Site: 0}, true},
		{api.Stamp{N: 4, Site: 0}, api.Stamp{N: 3, Site: 5}, false},
		{api.Stamp{N: 1 << 40, Site: 4}, api.Stamp{N: 1 << 40, Site: 5}, true},
		{api.Stamp{}, api.Stamp{Site: 3}, true},
		{api.Stamp{Site: -1}, api.Stamp{}, true},
		{api.Stamp{N: -1, Site: 9}, api.Stamp{}, true},
		{api.Stamp{}, api.Stamp{N: -1, Site: 9}, false},
		{api.Stamp{N: 1<<40 + 1, Site: 6}, api.Stamp{N: 1<<40 + 1, Site: 7}, true},
		{api.Stamp{N: math.MinInt, Site: 5}, api.Stamp{N: math.MaxInt, Site: 0}, true},
		{api.Stamp{N: math.MaxInt, Site: 0}, api.Stamp{N: math.MinInt, Site: 5}, false},
		{api.Stamp{N: 1, Site: math.MinInt}, api.Stamp{N: 1, Site: math.MaxInt}, true},
		{api.Stamp{N: 1, Site: math.MaxInt}, api.Stamp{N: 1, Site: math.MinInt}, false},
	} {
		if got := Less(c.a, c.b); got != c.want {
			t.Errorf("Less(%v, %v): %t, want %t", c.a, c.b, got, c.want)
		}
	}
	l := every()
	for _, a := range l {
		for _, b := range l {
			if got, want := Less(a, b), compareAgain(a, b) < 0; got != want {
				t.Fatalf("Less(%v, %v): %t, want %t", a, b, got, want)
			}
		}
	}
}

func TestZeroIsLessThanEveryValidOne(t *testing.T) {
	for _, s := range every() {
		if Check(s) && (!Less(api.Stamp{}, s) || Less(s, api.Stamp{})) {
			t.Errorf("%v is valid, but it is not greater than the zero timestamp", s)
		}
	}
}

func TestMax(t *testing.T) {
	for _, c := range []struct {
		l    []api.Stamp
		want api.Stamp
	}{
		{nil, api.Stamp{}},
		{[]api.Stamp{}, api.Stamp{}},
		{[]api.Stamp{{}}, api.Stamp{}},
		{[]api.Stamp{{N: 3, Site: 2}}, api.Stamp{N: 3, Site: 2}},
		{[]api.Stamp{{N: 3, Site: 2}, {N: 3, Site: 4}, {N: 2, Site: 5}}, api.Stamp{N: 3, Site: 4}},
		{[]api.Stamp{{N: 3, Site: 4}, {N: 3, Site: 2}, {}}, api.Stamp{N: 3, Site: 4}},
		{[]api.Stamp{{N: 4}, {N: 3, Site: 5}}, api.Stamp{N: 4}},
		{[]api.Stamp{{N: 3, Site: 5}, {N: 4}}, api.Stamp{N: 4}},
		{[]api.Stamp{{N: 1}, {N: 1}}, api.Stamp{N: 1}},
		{[]api.Stamp{{N: 1 << 40, Site: 5}, {N: 1 << 40}}, api.Stamp{N: 1 << 40, Site: 5}},
		{[]api.Stamp{{N: -1, Site: 5}}, api.Stamp{}},
		{[]api.Stamp{{N: -1, Site: 5}, {N: math.MinInt, Site: 9}, {Site: -1}}, api.Stamp{}},
		{[]api.Stamp{{Site: 9}}, api.Stamp{Site: 9}},
		{[]api.Stamp{{N: 1<<40 + 1, Site: 6}, {N: 1 << 40, Site: 5}}, api.Stamp{N: 1<<40 + 1, Site: 6}},
		{[]api.Stamp{{N: math.MaxInt, Site: -1}, {N: math.MinInt, Site: 5}, {N: 3}}, api.Stamp{N: math.MaxInt, Site: -1}},
	} {
		if got := Max(c.l...); got != c.want {
			t.Errorf("Max(%v): %v, want %v", c.l, got, c.want)
		}
	}
	if got := Max(); got != (api.Stamp{}) {
		t.Errorf("Max of nothing: %v", got)
	}
}

func TestMaxOfOneTwoAndThree(t *testing.T) {
	check := func(l ...api.Stamp) {
		want := slices.MaxFunc(append([]api.Stamp{{}}, l...), compareAgain)
		if got := Max(l...); got != want {
			t.Fatalf("Max(%v): %v, want %v", l, got, want)
		}
	}
	l := every()
	for i, a := range l {
		check(a)
		for k, b := range l {
			check(a, b)
			check(a, l[(i+k)%len(l)], b)
		}
	}
}

// P3.2

func TestNext(t *testing.T) {
	for _, c := range []struct {
		seen api.Stamp
		site int
		want api.Stamp
		err  api.Errno
	}{
		{api.Stamp{}, 0, api.Stamp{N: 1}, api.OK},
		{api.Stamp{}, 5, api.Stamp{N: 1, Site: 5}, api.OK},
		{api.Stamp{N: 1}, 0, api.Stamp{N: 2}, api.OK},
		{api.Stamp{N: 3, Site: 2}, 1, api.Stamp{N: 4, Site: 1}, api.OK},
		{api.Stamp{N: 3, Site: 2}, 2, api.Stamp{N: 4, Site: 2}, api.OK},
		{api.Stamp{N: 1<<40 - 1, Site: 5}, 0, api.Stamp{N: 1 << 40}, api.OK},
		{api.Stamp{N: 1 << 40}, 0, api.Stamp{}, api.ErrOver},
		{api.Stamp{N: 1 << 40}, 5, api.Stamp{}, api.ErrOver},
		{api.Stamp{N: 1<<40 + 1}, 0, api.Stamp{}, api.ErrOver},
		{api.Stamp{N: math.MaxInt}, 0, api.Stamp{}, api.ErrOver},
		{api.Stamp{N: 3}, -1, api.Stamp{}, api.ErrArg},
		{api.Stamp{N: 3}, 6, api.Stamp{}, api.ErrArg},
		{api.Stamp{N: 3}, math.MinInt, api.Stamp{}, api.ErrArg},
		{api.Stamp{N: 3}, math.MaxInt, api.Stamp{}, api.ErrArg},
		// The site is mentioned first.
		{api.Stamp{N: 1 << 40}, -1, api.Stamp{}, api.ErrArg},
		{api.Stamp{N: 1 << 40}, 6, api.Stamp{}, api.ErrArg},
		{api.Stamp{N: math.MaxInt, Site: 6}, 6, api.Stamp{}, api.ErrArg},
		// Only the number of what was seen counts, valid or not.
		{api.Stamp{N: -1, Site: 5}, 2, api.Stamp{N: 1, Site: 2}, api.OK},
		{api.Stamp{N: -2, Site: 5}, 2, api.Stamp{N: 1, Site: 2}, api.OK},
		{api.Stamp{N: math.MinInt}, 2, api.Stamp{N: 1, Site: 2}, api.OK},
		{api.Stamp{Site: 9}, 2, api.Stamp{N: 1, Site: 2}, api.OK},
		{api.Stamp{N: 7, Site: -1}, 2, api.Stamp{N: 8, Site: 2}, api.OK},
		{api.Stamp{N: 7, Site: 6}, 2, api.Stamp{N: 8, Site: 2}, api.OK},
		{api.Stamp{N: 1 << 40, Site: 6}, 2, api.Stamp{}, api.ErrOver},
	} {
		if got, err := Next(c.seen, c.site); got != c.want || err != c.err {
			t.Errorf("Next(%v, %d): %v, %d, want %v, %d", c.seen, c.site, got, int(err), c.want, int(c.err))
		}
	}
}

// nextAgain is what the chapter says of Next, case by case.
func nextAgain(seen api.Stamp, site int) (api.Stamp, api.Errno) {
	switch {
	case site < 0 || site > 5:
		return api.Stamp{}, 1
	case seen.N >= 1<<40:
		return api.Stamp{}, 18
	case seen.N < 0:
		return api.Stamp{N: 1, Site: site}, 0
	default:
		return api.Stamp{N: seen.N + 1, Site: site}, 0
	}
}

func TestNextOfEvery(t *testing.T) {
	for _, seen := range every() {
		for _, site := range places {
			got, err := Next(seen, site)
			if want, e := nextAgain(seen, site); got != want || err != e {
				t.Errorf("Next(%v, %d): %v, %d, want %v, %d", seen, site, got, int(err), want, int(e))
			}
		}
	}
}

// P3.3

func TestBytes(t *testing.T) {
	for _, c := range []struct {
		n, site int
		want    string
	}{
		{1, 0, "\x01\x00"},
		{3, 4, "\x03\x04"},
		{127, 5, "\x7f\x05"},
		{128, 5, "\x80\x01\x05"},
		{300, 2, "\xac\x02\x02"},
		{1 << 40, 0, "\x80\x80\x80\x80\x80\x20\x00"},
		{1 << 40, 5, "\x80\x80\x80\x80\x80\x20\x05"},
		{1<<40 - 1, 1, "\xff\xff\xff\xff\xff\x1f\x01"},
		{0, 0, ""},
		{0, 5, ""},
		{1, 6, ""},
		{1, -1, ""},
		{-1, 0, ""},
		{1<<40 + 1, 0, ""},
		{math.MaxInt, 0, ""},
		{math.MinInt, 0, ""},
		{1, math.MaxInt, ""},
		{1, math.MinInt, ""},
	} {
		if got := Bytes(api.Stamp{N: c.n, Site: c.site}); got != c.want {
			t.Errorf("Bytes of %d, site %d: % x, want % x", c.n, c.site, got, c.want)
		}
	}
	for _, s := range every() {
		want := ""
		if validAgain(s) {
			want = encoded(uint64(s.N), uint64(s.Site))
		}
		if got := Bytes(s); got != want {
			t.Errorf("Bytes(%v): % x, want % x", s, got, want)
		}
	}
}

// refuses tells of a Read that does not answer zero values and false.
func refuses(t *testing.T, why, s string, at int) {
	t.Helper()
	if x, end, ok := Read(s, at); x != (api.Stamp{}) || end != 0 || ok {
		t.Errorf("Read, %s, % x at %d: %v, %d, %t, want {0 0}, 0, false", why, s, at, x, end, ok)
	}
}

func TestReadOfEveryValidOne(t *testing.T) {
	for _, x := range every() {
		if !validAgain(x) {
			continue
		}
		bytes := encoded(uint64(x.N), uint64(x.Site))
		for _, front := range []string{"", "\x00", "\x80", "\x01\x02", "\xff\xff\xff"} {
			for _, back := range []string{"", "\x00", "\x80", "\x01\x02", "\xff\x01"} {
				s := front + bytes + back
				got, end, ok := Read(s, len(front))
				if want := len(front) + len(bytes); got != x || end != want || !ok {
					t.Errorf("Read(% x, %d): %v, %d, %t, want %v, %d, true", s, len(front), got, end, ok, x, want)
				}
			}
			for cut := range bytes {
				refuses(t, "cut off", front+bytes[:cut], len(front))
			}
		}
	}
}

func TestReadOutsideOfTheString(t *testing.T) {
	for _, s := range []string{"", "\x01", "\x01\x02", "\x03\x04\x05\x01"} {
		for _, at := range []int{math.MinInt, math.MinInt + 1, -2, -1, len(s), len(s) + 1, math.MaxInt - 1, math.MaxInt} {
			refuses(t, "an offset outside", s, at)
		}
	}
	refuses(t, "only a number at the offset", "\x03\x04", 1)
}

func TestReadOfNoValidOne(t *testing.T) {
	for _, c := range []struct{ why, s string }{
		{"nothing", ""},
		{"the zero timestamp", "\x00\x00"},
		{"a number of 0", "\x00\x05"},
		{"site 6", "\x01\x06"},
		{"site 127", "\x01\x7f"},
		{"site 128", "\x01\x80\x01"},
		{"site 256", encoded(1, 1<<8)},
		{"site 2^32", encoded(1, 1<<32)},
		{"site 2^63", encoded(1, 1<<63)},
		{"site 2^64 - 1", encoded(1, math.MaxUint64)},
		{"a number behind MaxStamp", encoded(1<<40+1, 0)},
		{"a number of 2^41", encoded(1<<41, 0)},
		{"a number of 2^63 - 1", encoded(1<<63-1, 0)},
		{"a number of 2^63", encoded(1<<63, 0)},
		{"a number of 2^63 + 1", encoded(1<<63+1, 0)},
		{"a number of 2^64 - 1", encoded(math.MaxUint64, 0)},
		{"both too great", encoded(math.MaxUint64, math.MaxUint64)},
		{"a number of 2^64", strings.Repeat("\x80", 9) + "\x02\x00"},
		{"2^64 + 1, which wraps to 1", "\x81" + strings.Repeat("\x80", 8) + "\x02\x00"},
		{"site 2^64 + 1", "\x01\x81" + strings.Repeat("\x80", 8) + "\x02"},
		{"a number with more bytes than necessary", "\x81\x00\x02"},
		{"a site with more bytes than necessary", "\x01\x82\x00"},
		{"site 0 with more bytes than necessary", "\x01\x80\x00"},
		{"a number alone", "\x01"},
		{"a number that is not complete", "\x80"},
		{"a site that is not complete", "\x01\x80"},
	} {
		for _, front := range []string{"", "\x01", "\x80\x01"} {
			refuses(t, c.why, front+c.s, len(front))
		}
	}
	for _, x := range every() {
		if !validAgain(x) {
			refuses(t, "the numbers of one that is not valid", encoded(uint64(x.N), uint64(x.Site))+"\x01", 0)
		}
	}
}

// shortStrings calls do with every string of at most six bytes out of those at which a decoder may go wrong.
func shortStrings(do func(s string)) {
	var grow func(s string)
	grow = func(s string) {
		do(s)
		if len(s) == 6 {
			return
		}
		for _, b := range []byte{0x00, 0x01, 0x05, 0x06, 0x7f, 0x80, 0x81, 0xff} {
			grow(s + string([]byte{b}))
		}
	}
	grow("")
}

// readAgain is the decoding by means of the library, held against the encoding so that it is the shortest one.
func readAgain(s string) (x api.Stamp, end int, ok bool) {
	n, first := binary.Uvarint([]byte(s))
	if first <= 0 {
		return api.Stamp{}, 0, false
	}
	site, second := binary.Uvarint([]byte(s[first:]))
	if second <= 0 || n == 0 || n > 1<<40 || site > 5 || s[:first+second] != encoded(n, site) {
		return api.Stamp{}, 0, false
	}
	return api.Stamp{N: int(n), Site: int(site)}, first + second, true
}

func TestReadOfAllShortStrings(t *testing.T) {
	check := func(s string) {
		x, end, ok := Read(s, 0)
		if wantX, wantEnd, want := readAgain(s); x != wantX || end != wantEnd || ok != want {
			t.Fatalf("Read(% x, 0): %v, %d, %t, want %v, %d, %t", s, x, end, ok, wantX, wantEnd, want)
		}
	}
	shortStrings(check)
	// Behind four bytes of a number, its end may lie on both sides of MaxStamp.
	for _, front := range []string{"\x80\x80\x80\x80", "\x81\x80\x80\x80", "\xff\xff\xff\xff"} {
		for end := range 1 << 16 {
			for _, site := range []string{"", "\x00", "\x05", "\x06", "\x80"} {
				check(front + string([]byte{byte(end), byte(end >> 8)}) + site)
			}
		}
	}
}

func TestReadOneAfterAnother(t *testing.T) {
	var all string
	var want []api.Stamp
	for _, x := range every() {
		if Check(x) {
			want = append(want, x)
		}
		// One that is not valid has no bytes, so it leaves no trace.
		all += Bytes(x)
	}
	var got []api.Stamp
	for at := 0; at < len(all); {
		x, end, ok := Read(all, at)
		if !ok {
			t.Fatalf("Read at %d of the Bytes of %d timestamps fails", at, len(want))
		}
		got, at = append(got, x), end
	}
	if !slices.Equal(got, want) {
		t.Errorf("read one after another: %v, want %v", got, want)
	}
}

// P3.4

func TestDifferentOnesAreComparable(t *testing.T) {
	l := every()
	for _, a := range l {
		for _, b := range l {
			// One of the two, and not both, unless they are the same.
			if Less(a, b) == Less(b, a) && a != b || a == b && Less(a, b) {
				t.Fatalf("%v and %v: Less %t, the other way round %t", a, b, Less(a, b), Less(b, a))
			}
		}
	}
}

func TestNextIsGreater(t *testing.T) {
	for _, seen := range every() {
		for site := range api.MaxSites {
			got, err := Next(seen, site)
			if err == api.OK && (!Less(seen, got) || Less(got, seen) || !Check(got) || Max(seen, got) != got) {
				t.Errorf("Next(%v, %d): %v, which is not a greater valid one", seen, site, got)
			}
			if err != api.OK && seen.N < api.MaxStamp {
				t.Errorf("Next(%v, %d): error %d, though there is a greater one", seen, site, int(err))
			}
		}
	}
}

// R3: what is handed in is neither changed nor kept.
func TestArgumentsStayAsTheyAre(t *testing.T) {
	l := []api.Stamp{{N: 3, Site: 2}, {N: 4}, {N: 1, Site: 5}}
	got := Max(l...)
	if !slices.Equal(l, []api.Stamp{{N: 3, Site: 2}, {N: 4}, {N: 1, Site: 5}}) {
		t.Errorf("Max changed its timestamps: %v", l)
	}
	clear(l)
	if want := (api.Stamp{N: 4}); got != want {
		t.Errorf("Max after its timestamps were changed: %v, want %v", got, want)
	}
	if again := Max(l...); again != (api.Stamp{}) {
		t.Errorf("Max of zero timestamps after another Max: %v", again)
	}
}

// P1 and R5: size alone must neither stop a call nor slow it down out of proportion.
func TestLargeInputs(t *testing.T) {
	const count = 1 << 20
	l := make([]api.Stamp, count)
	for i := range l {
		l[i] = api.Stamp{N: i ^ 0x5555, Site: i % api.MaxSites}
	}
	if got, want := Max(l...), slices.MaxFunc(l, compareAgain); got != want {
		t.Errorf("Max of %d timestamps: %v, want %v", count, got, want)
	}
	refuses(t, "many bytes without an end", strings.Repeat("\x80", count), 0)
	s := strings.Repeat("\x00", count) + "\x03\x04" + strings.Repeat("\xff", count)
	if x, end, ok := Read(s, count); x != (api.Stamp{N: 3, Site: 4}) || end != count+2 || !ok {
		t.Errorf("Read in the middle of %d bytes: %v, %d, %t", len(s), x, end, ok)
	}
}

func FuzzStamp(f *testing.F) {
	f.Add("\x03\x04", 0, 3, 4, 3, 2)
	f.Add("\x00\x80\x80\x80\x80\x80\x20\x05", 1, 1<<40, 6, math.MinInt, -1)
	f.Fuzz(func(t *testing.T, s string, at, n, site, m, other int) {
		x, end, ok := Read(s, at)
		if ok && (!validAgain(x) || s[at:end] != encoded(uint64(x.N), uint64(x.Site))) || !ok && (x != api.Stamp{} || end != 0) {
			t.Errorf("Read(% x, %d): %v, %d, %t", s, at, x, end, ok)
		}
		a, b := api.Stamp{N: n, Site: site}, api.Stamp{N: m, Site: other}
		if got, want := Less(a, b), compareAgain(a, b) < 0; got != want {
			t.Errorf("Less(%v, %v): %t, want %t", a, b, got, want)
		}
		if got, want := Max(a, b), slices.MaxFunc([]api.Stamp{{}, a, b}, compareAgain); got != want {
			t.Errorf("Max(%v, %v): %v, want %v", a, b, got, want)
		}
		if got, want := Check(a), validAgain(a); got != want {
			t.Errorf("Check(%v): %t, want %t", a, got, want)
		}
		got, err := Next(a, other)
		if want, e := nextAgain(a, other); got != want || err != e {
			t.Errorf("Next(%v, %d): %v, %d, want %v, %d", a, other, got, int(err), want, int(e))
		}
		if y, end, ok := Read(Bytes(a), 0); ok != validAgain(a) || ok && (y != a || end != len(Bytes(a))) {
			t.Errorf("Read(Bytes(%v), 0): %v, %d, %t", a, y, end, ok)
		}
	})
}

// The words of the document's examples.
func TestExamples(t *testing.T) {
	if got, err := Next(api.Stamp{N: 3, Site: 2}, 1); got != (api.Stamp{N: 4, Site: 1}) || err != api.OK {
		t.Errorf("Next of 3, site 2, at site 1: %v, %d", got, int(err))
	}
	if !Less(api.Stamp{N: 3, Site: 1}, api.Stamp{N: 3, Site: 2}) {
		t.Errorf("3, site 2, is not greater than 3, site 1")
	}
}
