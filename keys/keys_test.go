package keys

import (
	"fmt"
	"slices"
	"strings"
	"testing"
	"unicode/utf8"

	"archipelago/api"
)

// notUTF8 are strings that are not valid UTF-8, each of few enough runes for a key.
var notUTF8 = []struct{ why, s string }{
	{"a byte that begins nothing", "\xff"},
	{"a byte that goes on without a beginning", "\x80"},
	{"at the end", "a\xff"},
	{"at the front", "\xffa"},
	{"in the middle", "a\xfeb"},
	{"two of three bytes", "\xef\xbf"},
	{"two of three bytes, then a rune", "\xef\xbfa"},
	{"one of two bytes", "\xc3"},
	{"a surrogate", "\xed\xa0\x80"},
	{"the last surrogate", "\xed\xbf\xbf"},
	{"more than 10ffff", "\xf4\x90\x80\x80"},
	{"21 in two bytes", "\xc0\xa1"},
	{"a letter in two bytes", "\xc1\xa1"},
	{"the replacement rune in four bytes", "\xf0\x8f\xbf\xbd"},
	{"ahead of the replacement rune", "\xff\ufffd"},
	{"behind the replacement rune", "\ufffd\xff"},
	{"behind seven runes", "abcdefg\xff"},
}

// P2.1

func TestCheck(t *testing.T) {
	for _, c := range []struct {
		why, s string
		want   bool
	}{
		{"empty", "", false},
		{"1 rune", "a", true},
		{"8 runes", "abcdefgh", true},
		{"9 runes", "abcdefghi", false},
		{"9 runes, the last one less than 21", "abcdefgh ", false},
		{"8 runes of two bytes", "éééééééé", true},
		{"9 runes of two bytes", "ééééééééé", false},
		{"8 runes of three bytes", "€€€€€€€€", true},
		{"9 runes of three bytes", "€€€€€€€€€", false},
		{"8 runes of four bytes", strings.Repeat("\U0001f600", 8), true},
		{"9 runes of four bytes", strings.Repeat("\U0001f600", 9), false},
		{"runes of one to four bytes", "aé€\U0001f600", true},
		{"rune 0", "\x00", false},
		{"rune 1f", "\x1f", false},
		{"rune 20", " ", false},
		{"rune 21", "!", true},
		{"8 times rune 21", "!!!!!!!!", true},
		{"rune 20 at the front", " ab", false},
		{"rune 20 in the middle", "a b", false},
		{"rune 20 at the end", "ab ", false},
		{"a new line", "a\n", false},
		{"rune 7f", "\x7f", true},
		{"rune 80", "\u0080", true},
		{"rune a0", "\u00a0", true},
		{"the rune ahead of the surrogates", "\ud7ff", true},
		{"the rune behind the surrogates", "\ue000", true},
		{"the greatest rune", "\U0010ffff", true},
		{"the replacement rune", "\ufffd", true},
		{"8 replacement runes", strings.Repeat("\ufffd", 8), true},
		{"9 replacement runes", strings.Repeat("\ufffd", 9), false},
		{"the replacement rune among others", "a\ufffdb", true},
	} {
		if got := Check(c.s); got != c.want {
			t.Errorf("Check, %s, %q: %t, want %t", c.why, c.s, got, c.want)
		}
	}
	for _, c := range notUTF8 {
		if Check(c.s) {
			t.Errorf("Check, %s, %q: true, want false", c.why, c.s)
		}
	}
}

func TestRunes(t *testing.T) {
	for _, c := range []struct {
		s    string
		want int
	}{
		{"", 0},
		{"a", 1},
		{" ", 1},
		{"\x00\x1f\n", 3},
		{"abcdefgh", 8},
		{"abcdefghi", 9},
		{"été", 3},
		{"aé€\U0001f600", 4},
		{"\ufffd", 1},
		{"\ufffd\U0001f600", 2},
		{"\ufffd\ufffd", 2},
		{"\ud7ff\ue000\U0010ffff", 3},
		{strings.Repeat("€", 1000), 1000},
		{strings.Repeat("€", 1000) + "\xff", -1},
	} {
		if got := Runes(c.s); got != c.want {
			t.Errorf("Runes(%q): %d, want %d", c.s, got, c.want)
		}
	}
	for _, c := range notUTF8 {
		if got := Runes(c.s); got != -1 {
			t.Errorf("Runes, %s, %q: %d, want -1", c.why, c.s, got)
		}
	}
}

// keyAgain and runesAgain say with other means of the library what Check and Runes must answer.
func keyAgain(s string) bool {
	n := runesAgain(s)
	return n >= 1 && n <= 8 && !strings.ContainsFunc(s, func(r rune) bool { return r < 0x21 })
}

func runesAgain(s string) int {
	if !utf8.ValidString(s) {
		return -1
	}
	return utf8.RuneCountInString(s)
}

// shortStrings calls do with every string of at most five bytes out of those at which a decoder of UTF-8 may go wrong.
func shortStrings(do func(s string)) {
	var grow func(s string)
	grow = func(s string) {
		do(s)
		if len(s) == 5 {
			return
		}
		for _, b := range []byte{0x00, 0x20, 0x21, 0x7f, 0x80, 0xa0, 0xbd, 0xbf, 0xc2, 0xed, 0xef, 0xf0, 0xf4, 0xff} {
			grow(s + string([]byte{b}))
		}
	}
	grow("")
}

func TestCheckAndRunesOfAllShortStrings(t *testing.T) {
	shortStrings(func(s string) {
		if got, want := Runes(s), runesAgain(s); got != want {
			t.Fatalf("Runes(% x): %d, want %d", s, got, want)
		}
		// With three or four letters ahead, strings of one to five runes lie on both sides of the limit.
		for _, front := range []string{"", "abc", "abcd"} {
			if got, want := Check(front+s), keyAgain(front+s); got != want {
				t.Fatalf("Check(% x): %t, want %t", front+s, got, want)
			}
		}
	})
}

func TestCheckOfEveryRune(t *testing.T) {
	for r := rune(0); r <= utf8.MaxRune; r++ {
		if !utf8.ValidRune(r) {
			continue
		}
		if got, want := Check(string(r)), r >= 0x21; got != want {
			t.Fatalf("Check of the rune %x: %t, want %t", r, got, want)
		}
		if got := Runes(string(r)); got != 1 {
			t.Fatalf("Runes of the rune %x: %d, want 1", r, got)
		}
	}
}

// P2.2

func TestHas(t *testing.T) {
	for _, c := range []struct {
		from, to, key string
		want          bool
	}{
		{"b", "d", "b", true},
		{"b", "d", "cc", true},
		{"b", "d", "d", false},
		{"b", "d", "a", false},
		{"b", "d", "", false},
		{"b", "d", "b!", true},
		{"b", "d", "azzzzzzz", false},
		{"b", "d", "czzzzzzzzzzzz", true},
		{"b", "d", "d!", false},
		{"b", "d", "c\xff", true},
		{"b", "d", "c \x00", true},
		{"b", "", "b", true},
		{"b", "", "a", false},
		{"b", "", "", false},
		{"b", "", "\xff\xff", true},
		{"", "d", "", true},
		{"", "d", "c", true},
		{"", "d", "d", false},
		{"", "d", "\x00", true},
		{"", "", "", true},
		{"", "", "a", true},
		{"", "", "\xff", true},
		{"b", "b", "b", false},
		{"b", "b", "a", false},
		{"d", "b", "c", false},
		{"d", "b", "a", false},
		{"d", "b", "e", false},
		{" ", "\xff", " ", true},
		{" ", "\xff", "\xff", false},
		{"abcdefghi", "abcdefghk", "abcdefghj", true},
		{"é", "", "z", false},
		{"é", "", "€", true},
		{"\uffff", "\U00010000", "\uffff", true},
		{"\uffff", "\U00010000", "\U00010000", false},
	} {
		if got := Has(api.Range{From: c.from, To: c.to}, c.key); got != c.want {
			t.Errorf("Has of %q to %q, %q: %t, want %t", c.from, c.to, c.key, got, c.want)
		}
	}
}

func TestGood(t *testing.T) {
	for _, c := range []struct {
		from, to string
		want     bool
	}{
		{"", "", true},
		{"a", "", true},
		{"", "a", true},
		{"a", "b", true},
		{"a", "a!", true},
		{"a", "aa", true},
		{"!", "a", true},
		{"z", "é", true},
		{"\uffff", "\U00010000", true},
		{"abcdefgh", "abcdefgi", true},
		{"a", "a", false},
		{"b", "a", false},
		{"aa", "a", false},
		{"é", "z", false},
		{"abcdefghi", "", false},
		{"", "abcdefghi", false},
		{"a", "abcdefghi", false},
		{"abcdefghi", "b", false},
		{" ", "", false},
		{"", " ", false},
		{" ", "a", false},
		{"a", "b ", false},
		{"\xff", "", false},
		{"", "\xff", false},
		{"a", "\xff", false},
		{"a\xff", "b", false},
		{"\ufffd", "", true},
		{"a", "\ufffd", true},
	} {
		if got := Good(api.Range{From: c.from, To: c.to}); got != c.want {
			t.Errorf("Good of %q to %q: %t, want %t", c.from, c.to, got, c.want)
		}
	}
}

func TestMeet(t *testing.T) {
	for _, c := range []struct {
		why  string
		a, b api.Range
		want bool
	}{
		{"the same", api.Range{From: "b", To: "d"}, api.Range{From: "b", To: "d"}, true},
		{"overlapping", api.Range{From: "b", To: "d"}, api.Range{From: "c", To: "e"}, true},
		{"overlapping in strings behind a key", api.Range{From: "b", To: "c"}, api.Range{From: "bzzzzzzz", To: "d"}, true},
		{"one in the other", api.Range{From: "b", To: "f"}, api.Range{From: "c", To: "d"}, true},
		{"the same From", api.Range{From: "b", To: "f"}, api.Range{From: "b", To: "c"}, true},
		{"the same To", api.Range{From: "b", To: "f"}, api.Range{From: "e", To: "f"}, true},
		{"touching", api.Range{From: "b", To: "d"}, api.Range{From: "d", To: "f"}, false},
		{"touching, unbounded", api.Range{To: "d"}, api.Range{From: "d"}, false},
		{"apart", api.Range{From: "b", To: "c"}, api.Range{From: "d", To: "e"}, false},
		{"apart, unbounded", api.Range{To: "c"}, api.Range{From: "d"}, false},
		{"both from the start", api.Range{To: "b"}, api.Range{To: "a"}, true},
		{"both from the start, only the empty string in one", api.Range{To: "!"}, api.Range{To: "b"}, true},
		{"both to the end", api.Range{From: "b"}, api.Range{From: "z"}, true},
		{"everything twice", api.Range{}, api.Range{}, true},
		{"everything and some", api.Range{}, api.Range{From: "b", To: "c"}, true},
		{"From equal to To", api.Range{From: "b", To: "b"}, api.Range{}, false},
		{"From greater than To", api.Range{From: "d", To: "b"}, api.Range{}, false},
		{"a From that is no key", api.Range{From: " ", To: "b"}, api.Range{}, false},
		{"a To that is no key", api.Range{From: "a", To: "b\xff"}, api.Range{}, false},
		{"a From of 9 runes", api.Range{From: "abcdefghi"}, api.Range{}, false},
		{"both not valid, and the same", api.Range{From: " ", To: "b"}, api.Range{From: " ", To: "b"}, false},
	} {
		if got := Meet(c.a, c.b); got != c.want {
			t.Errorf("Meet, %s: %t, want %t", c.why, got, c.want)
		}
		if got := Meet(c.b, c.a); got != c.want {
			t.Errorf("Meet, %s, the other way round: %t, want %t", c.why, got, c.want)
		}
	}
}

// someRanges are all ranges between some bounds, valid ones and others.
func someRanges(bounds ...string) []api.Range {
	var l []api.Range
	for _, from := range bounds {
		for _, to := range bounds {
			l = append(l, api.Range{From: from, To: to})
		}
	}
	return l
}

// someKeys are strings in front of, at, behind and between bounds, keys and others.
func someKeys(bounds ...string) []string {
	l := []string{"", "\x00", " ", "!", "\xff\xff"}
	for _, b := range bounds {
		l = append(l, b, b+"\x00", b+"!", b+"zzzzzzz")
	}
	return l
}

func TestMeetIsAStringInBoth(t *testing.T) {
	bounds := []string{"", "a", "aa", "ab", "b", "é", "a ", "\xff"}
	l, all := someRanges(bounds...), someKeys(bounds...)
	for _, a := range l {
		for _, b := range l {
			want := Good(a) && Good(b) && slices.ContainsFunc(all, func(s string) bool { return Has(a, s) && Has(b, s) })
			if got := Meet(a, b); got != want {
				t.Errorf("Meet(%q, %q): %t, want %t", a, b, got, want)
			}
		}
	}
}

func TestWhole(t *testing.T) {
	for _, c := range []struct {
		why  string
		l    []api.Range
		want bool
	}{
		{"nil", nil, false},
		{"none", []api.Range{}, false},
		{"one", []api.Range{{}}, true},
		{"one that begins later", []api.Range{{From: "a"}}, false},
		{"one that ends", []api.Range{{To: "a"}}, false},
		{"one bounded on both sides", []api.Range{{From: "a", To: "b"}}, false},
		{"two", []api.Range{{To: "b"}, {From: "b"}}, true},
		{"three", []api.Range{{To: "b"}, {From: "b", To: "m"}, {From: "m"}}, true},
		{"without the last one", []api.Range{{To: "b"}, {From: "b", To: "m"}}, false},
		{"without the first one", []api.Range{{From: "b", To: "m"}, {From: "m"}}, false},
		{"a gap", []api.Range{{To: "b"}, {From: "c"}}, false},
		{"an overlap", []api.Range{{To: "c"}, {From: "b"}}, false},
		{"not in order", []api.Range{{From: "b"}, {To: "b"}}, false},
		{"everything twice", []api.Range{{}, {}}, false},
		{"everything, then more", []api.Range{{}, {From: "b"}}, false},
		{"everything again behind it", []api.Range{{To: "b"}, {From: "b"}, {}}, false},
		{"from the start once more", []api.Range{{To: "b"}, {From: "b"}, {To: "b"}, {From: "b"}}, false},
		{"from the start once more, in the middle", []api.Range{{To: "b"}, {To: "c"}, {From: "c"}}, false},
		{"to the end in the middle", []api.Range{{To: "b"}, {From: "b"}, {From: "c"}}, false},
		{"a range with From equal to To", []api.Range{{To: "b"}, {From: "b", To: "b"}, {From: "b"}}, false},
		{"ranges that go back", []api.Range{{To: "c"}, {From: "c", To: "b"}, {From: "b"}}, false},
		{"a bound of 9 runes", []api.Range{{To: "abcdefghi"}, {From: "abcdefghi"}}, false},
		{"a bound with a space", []api.Range{{To: "a b"}, {From: "a b"}}, false},
		{"a bound that is not UTF-8", []api.Range{{To: "\xff"}, {From: "\xff"}}, false},
		{"a bound of the replacement rune", []api.Range{{To: "\ufffd"}, {From: "\ufffd"}}, true},
		{"more than MaxRanges", manyRanges(20), true},
	} {
		if got := Whole(c.l); got != c.want {
			t.Errorf("Whole, %s: %t, want %t", c.why, got, c.want)
		}
	}
}

func TestFind(t *testing.T) {
	l := []api.Range{{To: "b"}, {From: "b", To: "m"}, {From: "m"}}
	mixed := []api.Range{{From: "d", To: "b"}, {From: "c", To: "f"}, {From: "b", To: "e"}, {From: " ", To: "\xff"}}
	for _, c := range []struct {
		l    []api.Range
		key  string
		want int
	}{
		{nil, "a", -1},
		{[]api.Range{}, "", -1},
		{[]api.Range{{}}, "", 0},
		{[]api.Range{{}}, "\xff", 0},
		{l, "", 0},
		{l, "a", 0},
		{l, "b", 1},
		{l, "lzzz", 1},
		{l, "m", 2},
		{l, "€", 2},
		{l[:1], "c", -1},
		{l[1:], "a", -1},
		{l[1:], "b", 0},
		{l[1:2], "m", -1},
		{mixed, "d", 1},
		{mixed, "b", 2},
		{mixed, "bb", 2},
		{mixed, "a", 3},
		{mixed, "f", 3},
		{mixed, "\x1f", -1},
		{mixed, "\xff", -1},
	} {
		if got := Find(c.l, c.key); got != c.want {
			t.Errorf("Find(%q, %q): %d, want %d", c.l, c.key, got, c.want)
		}
	}
}

func TestBounds(t *testing.T) {
	for _, c := range []struct {
		l    []api.Range
		want []string
	}{
		{nil, nil},
		{[]api.Range{}, nil},
		{[]api.Range{{}}, nil},
		{[]api.Range{{}, {}}, nil},
		{[]api.Range{{From: "a"}}, []string{"a"}},
		{[]api.Range{{To: "a"}}, []string{"a"}},
		{[]api.Range{{To: "b"}, {From: "b", To: "m"}, {From: "m"}}, []string{"b", "m"}},
		{[]api.Range{{From: "m"}, {From: "b", To: "m"}, {To: "b"}}, []string{"b", "m"}},
		{[]api.Range{{From: "d", To: "b"}, {From: "c", To: "c"}}, []string{"b", "c", "d"}},
		{[]api.Range{{From: "b", To: "d"}, {From: "a", To: "c"}, {From: "b", To: "d"}}, []string{"a", "b", "c", "d"}},
		{[]api.Range{{From: "é", To: "z"}, {From: "aa", To: "a"}}, []string{"a", "aa", "z", "é"}},
		{[]api.Range{{From: "\xff", To: " "}, {From: "abcdefghi", To: "\x00"}}, []string{"\x00", " ", "abcdefghi", "\xff"}},
	} {
		if got := Bounds(c.l); !slices.Equal(got, c.want) {
			t.Errorf("Bounds(%q): %q, want %q", c.l, got, c.want)
		}
	}
}

// P2.3

// shortLists calls do with every list of at most so many of the ranges.
func shortLists(some []api.Range, most int, do func(l []api.Range)) {
	var grow func(l []api.Range)
	grow = func(l []api.Range) {
		do(l)
		if len(l) == most {
			return
		}
		for _, r := range some {
			grow(append(l[:len(l):len(l)], r))
		}
	}
	grow(nil)
}

// owners is how many of the ranges contain key.
func owners(l []api.Range, key string) int {
	n := 0
	for _, r := range l {
		if Has(r, key) {
			n++
		}
	}
	return n
}

func TestWholePutsEveryKeyInOneRange(t *testing.T) {
	bounds := []string{"", "a", "b", "bb", "é", "a "}
	all := someKeys(bounds...)
	seen := 0
	shortLists(someRanges(bounds...), 4, func(l []api.Range) {
		if !Whole(l) {
			return
		}
		seen++
		for _, key := range all {
			if n := owners(l, key); n != 1 {
				t.Fatalf("%q is whole, but %q is in %d of its ranges", l, key, n)
			}
			if at := Find(l, key); at < 0 || !Has(l[at], key) {
				t.Fatalf("%q is whole, but Find of %q is %d", l, key, at)
			}
		}
	})
	// A whole list of at most four ranges is a choice of at most three of the four bounds that are keys.
	if seen != 1+4+6+4 {
		t.Errorf("%d lists are whole, want 15", seen)
	}
}

// R3: what is handed in is neither changed nor kept.
func TestArgumentsStayAsTheyAre(t *testing.T) {
	list := func() []api.Range { return []api.Range{{From: "m"}, {From: "b", To: "m"}, {To: "b"}} }
	l := list()
	got := Bounds(l)
	Whole(l)
	Find(l, "c")
	if !slices.Equal(l, list()) {
		t.Errorf("a call changed its ranges: %q", l)
	}
	clear(l)
	if !slices.Equal(got, []string{"b", "m"}) {
		t.Errorf("Bounds after its ranges were changed: %q", got)
	}
	got[0] = "x"
	if again := Bounds(list()); !slices.Equal(again, []string{"b", "m"}) {
		t.Errorf("Bounds after an answer was changed: %q", again)
	}
}

// manyRanges partition all strings at count-1 keys of eight digits each.
func manyRanges(count int) []api.Range {
	l := make([]api.Range, count)
	for i := 1; i < count; i++ {
		key := fmt.Sprintf("%08d", i)
		l[i-1].To, l[i].From = key, key
	}
	return l
}

// P1 and R5: size alone must neither stop a call nor slow it down out of proportion.
func TestLargeInputs(t *testing.T) {
	const count = 1 << 18
	text := strings.Repeat("€", count)
	if Check(text) {
		t.Errorf("Check of %d runes: true", count)
	}
	if got := Runes(text); got != count {
		t.Errorf("Runes of %d runes: %d", count, got)
	}
	if got := Runes(text + "\xff"); got != -1 {
		t.Errorf("Runes of %d runes and a wrong byte: %d", count, got)
	}
	long := api.Range{From: text, To: text + "a"}
	if Good(long) || Meet(long, long) || !Has(long, text) || Has(long, text+"a") {
		t.Errorf("a range with bounds of %d runes: Good %t, Meet %t, Has %t and %t", count, Good(long), Meet(long, long), Has(long, text), Has(long, text+"a"))
	}
	l := manyRanges(count)
	if !Whole(l) || Whole(l[1:]) || Whole(l[:count-1]) {
		t.Errorf("Whole of %d ranges: %t, without the first one %t, without the last one %t", count, Whole(l), Whole(l[1:]), Whole(l[:count-1]))
	}
	if got := Find(l, "a"); got != count-1 {
		t.Errorf("Find in the last one of %d ranges: %d", count, got)
	}
	slices.Reverse(l)
	if got := Bounds(l); len(got) != count-1 || !slices.IsSorted(got) {
		t.Errorf("Bounds of %d ranges: %d, sorted %t", count, len(got), slices.IsSorted(got))
	}
}

func FuzzKeys(f *testing.F) {
	for _, c := range notUTF8 {
		f.Add(c.s, "a", "b")
	}
	f.Add("abcdefgh", "b", "a")
	f.Add("cc", "b", "d")
	f.Fuzz(func(t *testing.T, s, from, to string) {
		if got, want := Runes(s), runesAgain(s); got != want {
			t.Errorf("Runes(%q): %d, want %d", s, got, want)
		}
		if got, want := Check(s), keyAgain(s); got != want {
			t.Errorf("Check(%q): %t, want %t", s, got, want)
		}
		r := api.Range{From: from, To: to}
		valid := (from == "" || keyAgain(from)) && (to == "" || keyAgain(to) && to > from)
		if got := Good(r); got != valid {
			t.Errorf("Good(%q): %t, want %t", r, got, valid)
		}
		// A valid range contains its From, so it meets itself and everything.
		if Meet(r, r) != valid || Meet(r, api.Range{}) != valid || valid && !Has(r, from) {
			t.Errorf("%q: Meet with itself %t, with everything %t, Has its From %t, want %t", r, Meet(r, r), Meet(r, api.Range{}), Has(r, from), valid)
		}
		if l := []api.Range{{To: s}, {From: s}}; Whole(l) != keyAgain(s) {
			t.Errorf("Whole(%q): %t, want %t", l, Whole(l), keyAgain(s))
		}
	})
}

// The words of the document's examples.
func TestExamples(t *testing.T) {
	r := api.Range{From: "b", To: "d"}
	if !Has(r, "b") || !Has(r, "cc") || Has(r, "d") || Has(r, "a") {
		t.Errorf("b to d: b %t, cc %t, d %t, a %t", Has(r, "b"), Has(r, "cc"), Has(r, "d"), Has(r, "a"))
	}
}
