package queue

import (
	"fmt"
	"math"
	"math/rand/v2"
	"slices"
	"strings"
	"testing"
	"unicode/utf8"

	"archipelago/api"
	"archipelago/past"
)

// at is a timestamp.
func at(n, site int) api.Stamp { return api.Stamp{N: n, Site: site} }

// on is the dependency on what site 1 wrote to a key.
func on(key string, n int) api.Dep { return api.Dep{Key: key, Stamp: at(n, 1)} }

// write is what site 1 wrote to a key, with a value by which it is told from others.
func write(key string, n int, p ...api.Dep) api.Version {
	return api.Version{Key: key, Value: fmt.Sprint(key, " is ", n), Stamp: at(n, 1), Past: p}
}

// free is so many writes to keys of their own, which hang on nothing.
func free(count int) []api.Version {
	var l []api.Version
	for i := range count {
		l = append(l, write(fmt.Sprintf("k%d", i), i+1))
	}
	return l
}

// bounded is the range from a key up to another one.
func bounded(from, to string) api.Range { return api.Range{From: from, To: to} }

// everything is the range that contains all keys, on its own.
func everything() []api.Range { return []api.Range{{}} }

// longPast is a past of so many keys, valid but for its length.
func longPast(count int) []api.Dep {
	var p []api.Dep
	for i := range count {
		p = append(p, api.Dep{Key: fmt.Sprintf("k%06d", i), Stamp: at(i+1, i%api.MaxSites)})
	}
	return p
}

// wrong are versions that are not valid, each for one reason alone, but for the last ones.
func wrong() []api.Version {
	set := func(change func(*api.Version)) api.Version {
		v := write("a", 5, on("b", 3), on("c", 4))
		change(&v)
		return v
	}
	return []api.Version{
		set(func(v *api.Version) { v.Key = "" }),
		set(func(v *api.Version) { v.Key = "a b" }),
		set(func(v *api.Version) { v.Key = "aaaaaaaaa" }),
		set(func(v *api.Version) { v.Key = "a\xff" }),
		set(func(v *api.Version) { v.Stamp = api.Stamp{} }),
		set(func(v *api.Version) { v.Stamp.N = 0 }),
		set(func(v *api.Version) { v.Stamp.N = -5 }),
		set(func(v *api.Version) { v.Stamp.N = 1<<40 + 1 }),
		set(func(v *api.Version) { v.Stamp.N = math.MaxInt }),
		set(func(v *api.Version) { v.Stamp.N = math.MinInt }),
		set(func(v *api.Version) { v.Stamp.Site = 6 }),
		set(func(v *api.Version) { v.Stamp.Site = -1 }),
		set(func(v *api.Version) { v.Value = strings.Repeat("v", 33) }),
		set(func(v *api.Version) { v.Gone = true }),
		set(func(v *api.Version) { v.Past = longPast(25) }),
		set(func(v *api.Version) { v.Past[0].Key = "d" }),
		set(func(v *api.Version) { v.Past[0].Key = "c" }),
		set(func(v *api.Version) { v.Past[0].Key = "b b" }),
		set(func(v *api.Version) { v.Past[1].Stamp.N = 0 }),
		set(func(v *api.Version) { *v = api.Version{} }),
		set(func(v *api.Version) { *v = api.Version{Key: "\xff", Value: "x", Gone: true, Past: make([]api.Dep, 99)} }),
	}
}

// right are versions that are valid, at the edges of what is.
func right() []api.Version {
	most := write("aaaaaaaa", 1<<40, longPast(24)...)
	most.Value, most.Stamp.Site = strings.Repeat("v", 32), 5
	gone := write("a", 1, on("a", 9))
	gone.Value, gone.Gone = "", true
	return []api.Version{{Key: "!", Stamp: at(1, 0)}, most, gone, write("\U0010ffff", 3, on("b", 3))}
}

// probes are keys on both sides of the bounds that the tests use, at them and between them, and some that are not valid.
func probes() []string {
	return []string{"!", "B", "a", "a!", "aa", "b", "b!", "bz", "c", "cc", "d", "d!", "m", "z", "\u00e9", "\U0010ffff", "", " ", "a b", "aaaaaaaaa", "a\xff", "\xff", "\x00"}
}

// someRanges are ranges of all kinds: open on a side, on both, bounded, and such that are not valid.
func someRanges() []api.Range {
	return []api.Range{
		bounded("", ""), bounded("", "b"), bounded("b", "d"), bounded("c", ""), bounded("cc", "m"),
		bounded("d", "b"), bounded("b", "b"), bounded("a b", "\xff"),
	}
}

// What the chapter says, by other means than the program's.

func greater(a, b api.Stamp) bool { return a.N > b.N || a.N == b.N && a.Site > b.Site }

func within(l []api.Range, key string) bool {
	for _, r := range l {
		if strings.Compare(r.From, key) <= 0 && (len(r.To) == 0 || strings.Compare(key, r.To) < 0) {
			return true
		}
	}
	return false
}

func keyAgain(s string) bool {
	n := utf8.RuneCountInString(s)
	low := func(r rune) bool { return r < 0x21 }
	return utf8.ValidString(s) && n >= 1 && n <= 8 && !strings.ContainsFunc(s, low)
}

func stampAgain(s api.Stamp) bool { return 1 <= s.N && s.N <= 1<<40 && 0 <= s.Site && s.Site <= 5 }

func validAgain(v api.Version) bool {
	for i, d := range v.Past {
		if !keyAgain(d.Key) || !stampAgain(d.Stamp) || i > 0 && v.Past[i-1].Key >= d.Key {
			return false
		}
	}
	return keyAgain(v.Key) && stampAgain(v.Stamp) && len(v.Past) <= 24 && len(v.Value) <= 32 && !(v.Gone && len(v.Value) > 0)
}

func missesAgain(v api.Version, have []api.Dep, own []api.Range) []api.Dep {
	var l []api.Dep
	for _, d := range v.Past {
		if within(own, d.Key) && greater(d.Stamp, past.Get(have, d.Key)) {
			l = append(l, d)
		}
	}
	return l
}

// nextAgain is the index of the version that comes next, or -1.
func nextAgain(l []api.Version, have []api.Dep, own []api.Range) int {
	for i := range l {
		if len(missesAgain(l[i], have, own)) == 0 {
			return i
		}
	}
	return -1
}

func dropAgain(l []api.Version, own []api.Range) []api.Version {
	var kept []api.Version
	for _, v := range l {
		if within(own, v.Key) {
			kept = append(kept, v)
		}
	}
	return kept
}

// but is l without the element at an index, or all of it where that is below 0.
func but(l []api.Version, at int) []api.Version {
	var left []api.Version
	for i, v := range l {
		if i != at {
			left = append(left, v)
		}
	}
	return left
}

func sameVersion(a, b api.Version) bool {
	return a.Key == b.Key && a.Value == b.Value && a.Gone == b.Gone && a.Stamp == b.Stamp && slices.Equal(a.Past, b.Past)
}

func sameList(a, b []api.Version) bool { return slices.EqualFunc(a, b, sameVersion) }

// misses holds Misses and Check against what they are to answer.
func misses(t *testing.T, why string, v api.Version, have []api.Dep, own []api.Range, want ...api.Dep) {
	t.Helper()
	if got := Misses(v, have, own); !slices.Equal(got, want) {
		t.Fatalf("%s: Misses of %v with %v in %v: %v, want %v", why, v.Past, have, own, got, want)
	}
	if got := Check(v, have, own); got != (len(want) == 0) {
		t.Fatalf("%s: Check of %v with %v in %v: %t, though it misses %v", why, v.Past, have, own, got, want)
	}
}

// next holds Next against the index of the version that it is to answer, or -1, and gives what is left.
func next(t *testing.T, why string, l []api.Version, have []api.Dep, own []api.Range, want int) []api.Version {
	t.Helper()
	v, left, ok := Next(l, have, own)
	if want < 0 {
		if ok || !sameVersion(v, api.Version{}) || v.Past != nil {
			t.Fatalf("%s: Next of %v with %v in %v: %v, %t, want the zero version, false", why, l, have, own, v, ok)
		}
	} else if !ok || !sameVersion(v, l[want]) {
		t.Fatalf("%s: Next of %v with %v in %v: %v, %t, want %v, true", why, l, have, own, v, ok, l[want])
	}
	if rest := but(l, want); !sameList(left, rest) {
		t.Fatalf("%s: Next of %v with %v in %v leaves %v, want %v", why, l, have, own, left, rest)
	}
	return left
}

// drops holds Drop against what is to be left.
func drops(t *testing.T, why string, l []api.Version, own []api.Range, want []api.Version) {
	t.Helper()
	if got := Drop(l, own); !sameList(got, want) {
		t.Fatalf("%s: Drop of %v in %v: %v, want %v", why, l, own, got, want)
	}
}

// all calls Next until it answers false, each time with what was answered before added to have; it gives what came, in order, what is left, and what is there then.
func all(t *testing.T, l []api.Version, have []api.Dep, own []api.Range) (came, left []api.Version, then []api.Dep) {
	t.Helper()
	for range l {
		v, rest, ok := Next(l, have, own)
		if !ok {
			break
		}
		if len(rest) != len(l)-1 {
			t.Fatalf("Next of %d versions leaves %d", len(l), len(rest))
		}
		came, l = append(came, v), rest
		have = past.Add(have, api.Dep{Key: v.Key, Stamp: v.Stamp})
	}
	if v, rest, ok := Next(l, have, own); ok {
		t.Fatalf("Next of %v with %v in %v: %v, once more than there are versions; %v is left", l, have, own, v, rest)
	}
	return came, l, have
}

// orders is all orders of the elements of l.
func orders[T any](l []T) [][]T {
	if len(l) == 0 {
		return [][]T{nil}
	}
	var all [][]T
	for i, x := range l {
		for _, rest := range orders(slices.Concat(l[:i], l[i+1:])) {
			all = append(all, append(rest, x))
		}
	}
	return all
}

// subsets is all lists out of l, each element at most once, in order.
func subsets[T any](l []T) [][]T {
	all := [][]T{nil}
	for _, x := range l {
		for _, s := range all {
			all = append(all, append(slices.Clone(s), x))
		}
	}
	return all
}

// lists is all lists of at most so many out of l, in any order and any number of times.
func lists[T any](l []T, most int) [][]T {
	all := [][]T{nil}
	for from := 0; most > 0; most-- {
		grown := len(all)
		for _, s := range all[from:grown] {
			for _, x := range l {
				all = append(all, append(slices.Clone(s), x))
			}
		}
		from = grown
	}
	return all
}

// The chapter's example.

func TestExample(t *testing.T) {
	a, b := write("a", 1), write("b", 2, on("a", 1))
	v, l, ok := Next([]api.Version{b, a}, nil, everything())
	if !ok || !sameVersion(v, a) || !sameList(l, []api.Version{b}) {
		t.Fatalf("Next: %v, %v, %t, want a", v, l, ok)
	}
	if v, left, ok := Next(l, nil, everything()); ok || !sameList(left, l) {
		t.Fatalf("Next, a not being there yet: %v, %v, %t, want nothing", v, left, ok)
	}
	v, l, ok = Next(l, []api.Dep{on("a", 1)}, everything())
	if !ok || !sameVersion(v, b) || len(l) > 0 {
		t.Fatalf("Next, a being there: %v, %v, %t, want b", v, l, ok)
	}
}

// P14.1

func TestMisses(t *testing.T) {
	own := []api.Range{bounded("", "m"), bounded("x", "")}
	for _, c := range []struct {
		why     string
		p, have []api.Dep
		own     []api.Range
		want    []api.Dep
	}{
		{"no list of a past", nil, []api.Dep{on("a", 1)}, own, nil},
		{"an empty past", []api.Dep{}, nil, own, nil},
		{"one that is not there", []api.Dep{on("a", 1)}, nil, own, []api.Dep{on("a", 1)}},
		{"one, and another key is there", []api.Dep{on("a", 1)}, []api.Dep{on("!", 9), on("aa", 9), on("b", 9)}, own, []api.Dep{on("a", 1)}},
		{"one that is there", []api.Dep{on("a", 3)}, []api.Dep{on("a", 3)}, own, nil},
		{"one that is passed", []api.Dep{on("a", 3)}, []api.Dep{on("a", 4)}, own, nil},
		{"one that is not reached", []api.Dep{on("a", 3)}, []api.Dep{on("a", 2)}, own, []api.Dep{on("a", 3)}},
		{"one in no range, not there", []api.Dep{on("n", 3)}, nil, own, nil},
		{"one in no range, not reached", []api.Dep{on("n", 3)}, []api.Dep{on("n", 2)}, own, nil},
		{"one in no range, there", []api.Dep{on("n", 3)}, []api.Dep{on("n", 3)}, own, nil},
		{"one in the second range", []api.Dep{on("y", 3)}, []api.Dep{on("y", 2)}, own, []api.Dep{on("y", 3)}},
		{"no ranges", []api.Dep{on("a", 3), on("z", 3)}, nil, []api.Range{}, nil},
		{"no list of ranges", []api.Dep{on("a", 3), on("z", 3)}, nil, nil, nil},
		{"several, none missing", []api.Dep{on("a", 1), on("b", 2), on("n", 3), on("y", 4)}, []api.Dep{on("a", 1), on("b", 9), on("y", 4)}, own, nil},
		{"several, the first one missing", []api.Dep{on("a", 1), on("b", 2), on("y", 4)}, []api.Dep{on("b", 2), on("y", 4)}, own, []api.Dep{on("a", 1)}},
		{"several, the last one missing", []api.Dep{on("a", 1), on("b", 2), on("y", 4)}, []api.Dep{on("a", 1), on("b", 2), on("y", 3)}, own, []api.Dep{on("y", 4)}},
		{"several, some missing", []api.Dep{on("a", 1), on("b", 2), on("n", 3), on("y", 4)}, []api.Dep{on("b", 2)}, own, []api.Dep{on("a", 1), on("y", 4)}},
		{"several, all missing", []api.Dep{on("a", 1), on("b", 2), on("y", 4)}, nil, own, []api.Dep{on("a", 1), on("b", 2), on("y", 4)}},
		{"several, an empty list being there", []api.Dep{on("a", 1), on("b", 2)}, []api.Dep{}, own, []api.Dep{on("a", 1), on("b", 2)}},
		{"as many as a past has, all missing", longPast(24), nil, own, longPast(24)},
		{"as many as a past has, all there", longPast(24), longPast(24), own, nil},
		{"as many as a past has, half there", longPast(24), longPast(12), own, longPast(24)[12:]},
	} {
		misses(t, c.why, write("v", 5, c.p...), c.have, c.own, c.want...)
	}
}

// What the timestamps are held against each other by: the number first, and then the site.
func TestMissesByTimestamps(t *testing.T) {
	for _, c := range []struct {
		d, have api.Stamp
		want    bool
	}{
		{at(3, 1), at(2, 1), true}, {at(3, 1), at(3, 1), false}, {at(3, 1), at(4, 1), false},
		{at(3, 1), at(3, 0), true}, {at(3, 1), at(3, 2), false}, {at(3, 0), at(2, 5), true}, {at(3, 5), at(4, 0), false},
		{at(3, 5), at(3, 4), true}, {at(1, 0), api.Stamp{}, true}, {at(1<<40, 5), at(1<<40, 4), true}, {at(1<<40, 5), at(1<<40, 5), false},
		// What is not valid is held in the same order.
		{api.Stamp{}, api.Stamp{}, false}, {api.Stamp{}, at(-1, 0), true}, {at(0, 1), api.Stamp{}, true}, {at(0, -1), api.Stamp{}, false},
		{at(-1, 5), api.Stamp{}, false}, {at(-1, 0), at(-2, 0), true}, {at(-3, 0), at(-2, 9), false}, {at(math.MinInt, 9), at(math.MaxInt, 0), false}, {at(math.MaxInt, math.MinInt), at(math.MinInt, math.MaxInt), true},
		{at(math.MaxInt, math.MaxInt), at(math.MaxInt, math.MinInt), true}, {at(math.MinInt, math.MinInt), at(math.MinInt, math.MinInt), false},
	} {
		d := api.Dep{Key: "b", Stamp: c.d}
		var want []api.Dep
		if c.want {
			want = []api.Dep{d}
		}
		misses(t, "timestamps", write("v", 5, d), []api.Dep{on("a", 1), {Key: "b", Stamp: c.have}, on("c", 9)}, everything(), want...)
		if c.have == (api.Stamp{}) {
			misses(t, "timestamps, none being there", write("v", 5, d), []api.Dep{on("a", 1), on("c", 9)}, everything(), want...)
		}
	}
}

func TestMissesByRanges(t *testing.T) {
	for _, c := range []struct {
		why     string
		l       []api.Range
		in, out []string
	}{
		{"all keys", everything(), []string{"!", "a", "zzzzzzzz", "\U0010ffff"}, nil},
		{"no beginning", []api.Range{bounded("", "m")}, []string{"!", "a", "lzzzzzzz", "l\U0010ffff"}, []string{"m", "m!", "z"}},
		{"no end", []api.Range{bounded("m", "")}, []string{"m", "m!", "z", "\U0010ffff"}, []string{"!", "a", "lzzzzzzz"}},
		{"bounded", []api.Range{bounded("b", "d")}, []string{"b", "b!", "bz", "c", "cc", "czzzzzzz"}, []string{"a", "azzzzzzz", "d", "d!", "B", "e"}},
		{"two that touch", []api.Range{bounded("b", "c"), bounded("c", "d")}, []string{"b", "bz", "c", "cc"}, []string{"a", "d"}},
		{"two that touch, in the wrong order", []api.Range{bounded("c", "d"), bounded("b", "c")}, []string{"b", "bz", "c", "cc"}, []string{"a", "d"}},
		{"two that overlap", []api.Range{bounded("a", "c"), bounded("b", "d")}, []string{"a", "aa", "b", "bz", "c", "cc"}, []string{"B", "d"}},
		{"two with a gap", []api.Range{bounded("a", "b"), bounded("c", "d")}, []string{"a", "aa", "c", "cc"}, []string{"b", "bz", "d"}},
		{"one within another", []api.Range{bounded("b", "c"), bounded("a", "m")}, []string{"a", "b", "c", "d", "l"}, []string{"B", "m", "z"}},
		{"one twice", []api.Range{bounded("b", "c"), bounded("b", "c")}, []string{"b", "bz"}, []string{"a", "c"}},
		{"one that ends ahead of its beginning", []api.Range{bounded("d", "b")}, nil, []string{"a", "b", "c", "d", "z"}},
		{"one that ends at its beginning", []api.Range{bounded("b", "b")}, nil, []string{"a", "b", "b!", "c"}},
		{"one with wrong bounds", []api.Range{bounded("a b", "c\xff")}, []string{"a!", "aa", "b", "c", "cc"}, []string{"a", "d"}},
		{"one that is not valid among others", []api.Range{bounded("d", "b"), bounded("m", ""), bounded("a", "a")}, []string{"m", "z"}, []string{"a", "b", "c", "d"}},
	} {
		for _, key := range c.in {
			d := on(key, 3)
			misses(t, c.why, write("v", 5, d), nil, c.l, d)
			misses(t, c.why, write("v", 5, d), []api.Dep{on(key, 2)}, c.l, d)
			misses(t, c.why, write("v", 5, d), []api.Dep{d}, c.l)
			drops(t, c.why, []api.Version{write(key, 3)}, c.l, []api.Version{write(key, 3)})
		}
		for _, key := range c.out {
			misses(t, c.why, write("v", 5, on(key, 3)), nil, c.l)
			misses(t, c.why, write("v", 5, on(key, 3)), []api.Dep{on(key, 2)}, c.l)
			drops(t, c.why, []api.Version{write(key, 3)}, c.l, nil)
		}
	}
}

func TestMissesInAnyRanges(t *testing.T) {
	for _, l := range lists(someRanges(), 3) {
		for _, key := range probes() {
			v := write("v", 5, on(key, 3))
			misses(t, "any ranges", v, nil, l, missesAgain(v, nil, l)...)
			drops(t, "any ranges", []api.Version{write(key, 3), v}, l, dropAgain([]api.Version{write(key, 3), v}, l))
		}
	}
}

// Of a version its Past alone matters: not what it is a write of, nor whether it is valid.
func TestMissesByThePastAlone(t *testing.T) {
	have := []api.Dep{on("a", 9), on("c", 3), {Key: "k000001", Stamp: at(9, 0)}}
	for _, v := range append(wrong(), right()...) {
		for _, own := range lists(someRanges(), 1) {
			misses(t, "a version of any kind", v, have, own, missesAgain(v, have, own)...)
		}
	}
	p := []api.Dep{on("a", 3), on("b", 3), on("c", 3)}
	for _, v := range append(wrong(), right()...) {
		v.Past = p
		misses(t, "a version of any kind", v, []api.Dep{on("a", 3)}, []api.Range{{To: "c"}}, on("b", 3))
	}
	// Its own key is one as any other: it hangs on itself, or on a later one.
	misses(t, "a version that hangs on itself", write("a", 3, on("a", 3)), nil, everything(), on("a", 3))
	misses(t, "a version that hangs on itself", write("a", 3, on("a", 3)), []api.Dep{on("a", 3)}, everything())
	misses(t, "a version that hangs on a later one", write("a", 3, on("a", 5)), []api.Dep{on("a", 4)}, everything(), on("a", 5))
}

// Pasts and heads, valid or not, of a few dependencies: the same key may be there often, and in any order.
func TestMissesOfAnyPasts(t *testing.T) {
	few := []api.Dep{
		on("a", 2), on("a", 3), {Key: "a", Stamp: at(3, 2)}, on("b", 3), on("c", 1), {Key: "c", Stamp: at(0, 1)}, {Key: "", Stamp: at(3, -1)},
	}
	for _, p := range lists(few, 3) {
		v := write("v", 5, p...)
		for _, have := range lists(few, 2) {
			for _, own := range lists(someRanges()[:4], 2) {
				misses(t, "any past", v, have, own, missesAgain(v, have, own)...)
			}
		}
	}
}

// P14.2: Push

func TestPush(t *testing.T) {
	for _, l := range [][]api.Version{nil, {}, free(1), free(2), free(22), free(23), wrong(), wrong()[:1], right(), slices.Repeat(free(1), 5)} {
		for _, v := range append(right(), free(1)...) {
			got, err := Push(l, v)
			if err != api.OK || !sameList(got, append(but(l, -1), v)) {
				t.Errorf("Push of %v onto %v: %v, %v", v, l, got, err)
			}
		}
	}
}

func TestPushOntoAFullQueue(t *testing.T) {
	for _, count := range []int{24, 25, 26, 100} {
		for _, l := range [][]api.Version{free(count), slices.Repeat(wrong()[:1], count), make([]api.Version, count)} {
			for _, v := range right() {
				if got, err := Push(l, v); err != api.ErrFull || len(got) > 0 {
					t.Errorf("Push onto a queue of %d: %d versions, %v, want none, %v", count, len(got), err, api.ErrFull)
				}
			}
		}
	}
}

func TestPushOfWrongVersions(t *testing.T) {
	for _, v := range wrong() {
		if validAgain(v) {
			t.Fatalf("%v is valid", v)
		}
		// Of a full queue, too, the version is told first.
		for _, count := range []int{0, 1, 23, 24, 25, 100} {
			if got, err := Push(free(count), v); err != api.ErrArg || len(got) > 0 {
				t.Errorf("Push of %v onto a queue of %d: %d versions, %v, want none, %v", v, count, len(got), err, api.ErrArg)
			}
		}
	}
}

// Until it is full, and again after one has left it.
func TestPushUntilFull(t *testing.T) {
	var l []api.Version
	for i, v := range free(30) {
		grown, err := Push(l, v)
		switch {
		case i < 24 && err == api.OK && len(grown) == i+1:
			l = grown
		case i >= 24 && err == api.ErrFull && len(grown) == 0:
		default:
			t.Fatalf("Push of version %d: %d versions, %v", i, len(grown), err)
		}
	}
	if !sameList(l, free(24)) {
		t.Fatalf("30 pushed versions are %v", l)
	}
	l = next(t, "a full queue", l, nil, nil, 0)
	if l, err := Push(l, write("a", 1)); err != api.OK || !sameList(l, append(free(24)[1:], write("a", 1))) {
		t.Fatalf("Push after Next: %v, %v", l, err)
	}
}

// P14.2: Next

func TestNext(t *testing.T) {
	a, b, c := write("a", 1, on("x", 1)), write("b", 2, on("x", 2)), write("c", 3, on("x", 3), on("y", 1))
	r, q := write("r", 4), write("q", 5)
	for _, e := range []struct {
		why  string
		l    []api.Version
		have []api.Dep
		want int
	}{
		{"no list", nil, nil, -1},
		{"an empty queue", []api.Version{}, []api.Dep{on("x", 9)}, -1},
		{"one that is ready", []api.Version{r}, nil, 0},
		{"one that is not", []api.Version{a}, nil, -1},
		{"the first one is ready", []api.Version{r, a, b}, nil, 0},
		{"the middle one is ready", []api.Version{a, r, b}, nil, 1},
		{"the last one is ready", []api.Version{a, b, r}, nil, 2},
		{"none is ready", []api.Version{a, b, c}, []api.Dep{on("y", 9)}, -1},
		{"all are ready", []api.Version{c, b, a}, []api.Dep{on("x", 3), on("y", 1)}, 0},
		{"the last two are ready", []api.Version{c, b, a}, []api.Dep{on("x", 2)}, 1},
		{"the last one has become ready", []api.Version{c, b, a}, []api.Dep{on("x", 1)}, 2},
		{"the first one misses one of two", []api.Version{c, r}, []api.Dep{on("x", 3)}, 1},
		{"the first one misses the other one of two", []api.Version{c, r}, []api.Dep{on("y", 1)}, 1},
		{"two are ready, among others", []api.Version{a, r, b, q, c}, nil, 1},
		{"two are ready, the other way round", []api.Version{a, q, b, r, c}, nil, 1},
		{"one is there twice", []api.Version{a, r, r, b}, nil, 1},
		{"one that is not ready is there twice", []api.Version{a, a, r}, nil, 2},
		{"versions that are not valid", wrong(), nil, len(wrong()) - 2},
		{"versions that are not valid, and all is there", wrong(), []api.Dep{on("b", 3), on("c", 4)}, 0},
	} {
		next(t, e.why, e.l, e.have, everything(), e.want)
	}
	next(t, "what is missing is in no range", []api.Version{c, a, b}, []api.Dep{on("y", 1)}, []api.Range{{From: "y"}}, 0)
	next(t, "what is missing is in no range, but for the first one", []api.Version{c, a, b}, nil, []api.Range{{From: "y"}}, 1)
	next(t, "no ranges", []api.Version{c, a, b}, nil, nil, 0)
}

func TestNextOfAnyQueue(t *testing.T) {
	few := []api.Version{
		write("a", 1), write("a", 3, on("b", 2)), write("b", 2, on("a", 1)), write("c", 3, on("a", 3), on("b", 2)),
		write("b", 4, on("c", 3), on("z", 9)), {Key: "a b", Past: []api.Dep{on("c", 2), on("a", 2), on("c", 4)}},
	}
	heads := lists([]api.Dep{on("a", 1), on("a", 3), on("b", 2), on("b", 4), on("c", 3), on("z", 9)}, 2)
	for _, l := range lists(few, 4) {
		for _, have := range heads {
			for _, own := range [][]api.Range{nil, everything(), {bounded("b", "d")}, {{To: "b"}, {From: "z"}}} {
				next(t, "any queue", l, have, own, nextAgain(l, have, own))
			}
		}
	}
}

// Next and Check agree, and all that Next leaves is there afterwards.
func TestNextByCheck(t *testing.T) {
	r := rand.New(rand.NewPCG(14, 2))
	names := []string{"a", "b", "bz", "c", "d", "z"}
	ranges := lists(someRanges(), 2)
	some := func(count int) []api.Dep {
		var p []api.Dep
		for range count {
			p = past.Add(p, api.Dep{Key: names[r.IntN(6)], Stamp: at(1+r.IntN(6), r.IntN(3))})
		}
		return p
	}
	for range 20000 {
		var l []api.Version
		for range r.IntN(25) {
			l = append(l, write(names[r.IntN(6)], 1+r.IntN(9), some(r.IntN(6))...))
		}
		have, own := some(r.IntN(6)), ranges[r.IntN(len(ranges))]
		want := slices.IndexFunc(l, func(v api.Version) bool { return Check(v, have, own) })
		if want != nextAgain(l, have, own) {
			t.Fatalf("of %v with %v in %v Check picks %d", l, have, own, want)
		}
		next(t, "any queue", l, have, own, want)
		drops(t, "any queue", l, own, dropAgain(l, own))
	}
}

// P14.2: Drop

func TestDrop(t *testing.T) {
	a, b, c, d := write("a", 1), write("b", 2, on("z", 9)), write("c", 3), write("b", 4)
	l := []api.Version{c, b, a, d, c}
	for _, e := range []struct {
		why  string
		l    []api.Version
		own  []api.Range
		want []api.Version
	}{
		{"no list", nil, everything(), nil},
		{"an empty queue", []api.Version{}, everything(), nil},
		{"an empty queue and no ranges", nil, nil, nil},
		{"all are in the ranges", l, everything(), l},
		{"all are in the ranges, exactly", l, []api.Range{bounded("a", "c!")}, l},
		{"all are in several ranges", l, []api.Range{bounded("c", "d"), bounded("b", "c"), bounded("a", "b")}, l},
		{"some are, of one key", l, []api.Range{bounded("b", "c")}, []api.Version{b, d}},
		{"some are, the lower ones", l, []api.Range{{To: "c"}}, []api.Version{b, a, d}},
		{"some are, the upper ones", l, []api.Range{{From: "b"}}, []api.Version{c, b, d, c}},
		{"some are, on both sides", l, []api.Range{{To: "b"}, {From: "c"}}, []api.Version{c, a, c}},
		{"some are, in ranges that overlap", l, []api.Range{bounded("a", "c"), bounded("b", "c")}, []api.Version{b, a, d}},
		{"one is", l, []api.Range{bounded("a", "a!")}, []api.Version{a}},
		{"none is, above", l, []api.Range{{From: "d"}}, nil},
		{"none is, below", l, []api.Range{{To: "a"}}, nil},
		{"none is, between them", l, []api.Range{bounded("b!", "c")}, nil},
		{"no ranges", l, []api.Range{}, nil},
		{"no list of ranges", l, nil, nil},
		{"a range that is not valid", l, []api.Range{bounded("d", "a")}, nil},
		{"a range that is not valid among others", l, []api.Range{bounded("d", "a"), bounded("c", "d"), bounded("b", "b")}, []api.Version{c, c}},
		{"versions that are not valid", wrong(), everything(), wrong()},
		{"versions that are not valid, some", wrong(), []api.Range{{To: "a "}}, dropAgain(wrong(), []api.Range{{To: "a "}})},
	} {
		drops(t, e.why, e.l, e.own, e.want)
	}
	// What a version hangs on is no matter of the ranges, and neither is its timestamp.
	for _, v := range append(wrong(), right()...) {
		v.Key = "b"
		drops(t, "a version of any kind", []api.Version{v, a}, []api.Range{bounded("b", "c")}, []api.Version{v})
	}
}

func TestDropInAnyRanges(t *testing.T) {
	var l []api.Version
	for i, key := range probes() {
		l = append(l, write(key, i), write(key, -i), api.Version{Key: key})
	}
	for _, own := range lists(someRanges(), 3) {
		drops(t, "any ranges", l, own, dropAgain(l, own))
	}
}

// P14.3

// settled tells of each version of l whether it can come: it goes over the list until nothing changes.
func settled(l []api.Version, have []api.Dep, own []api.Range) []bool {
	came := make([]bool, len(l))
	for changes := true; changes; {
		changes = false
		for i, v := range l {
			if !came[i] && len(missesAgain(v, have, own)) == 0 {
				came[i], changes = true, true
				have = past.Merge(have, []api.Dep{{Key: v.Key, Stamp: v.Stamp}})
			}
		}
	}
	return came
}

// consequence holds P14.3: what came had nothing missing when it came, what is left misses something, and no other order would let more come.
func consequence(t *testing.T, l []api.Version, have []api.Dep, own []api.Range) {
	t.Helper()
	came, left, then := all(t, l, have, own)
	grown := have
	for _, v := range came {
		if m := missesAgain(v, grown, own); len(m) > 0 {
			t.Fatalf("of %v with %v in %v, %v came, though it misses %v", l, have, own, v, m)
		}
		grown = past.Merge(grown, []api.Dep{{Key: v.Key, Stamp: v.Stamp}})
	}
	for _, v := range left {
		if len(missesAgain(v, then, own)) == 0 || len(Misses(v, then, own)) == 0 || Check(v, then, own) {
			t.Fatalf("of %v with %v in %v, %v is left, though it misses nothing", l, have, own, v)
		}
	}
	var rest []api.Version
	for i, does := range settled(l, have, own) {
		if !does {
			rest = append(rest, l[i])
		}
	}
	if !sameList(left, rest) || len(came)+len(left) != len(l) {
		t.Fatalf("of %v with %v in %v, %v is left, want %v", l, have, own, left, rest)
	}
}

// Four writes in every order, each of which hangs on any of the others.
func TestAllThatCanComes(t *testing.T) {
	names := []api.Dep{on("a", 1), on("b", 2), on("c", 3), on("d", 4)}
	places := orders([]int{0, 1, 2, 3})
	var pasts [4][][]api.Dep
	for i := range names {
		pasts[i] = subsets(slices.Concat(names[:i], names[i+1:]))
	}
	l := make([]api.Version, 4)
	for n := range 1 << 12 {
		for _, p := range places {
			for i, place := range p {
				l[place] = write(names[i].Key, names[i].Stamp.N, pasts[i][n>>(3*i)&7]...)
			}
			consequence(t, l, nil, everything())
		}
		consequence(t, l, []api.Dep{on("b", 1)}, []api.Range{{To: "c"}})
		consequence(t, l, []api.Dep{on("b", 2), on("d", 3)}, []api.Range{bounded("b", "c"), {From: "d"}})
	}
}

// A full queue whose writes each hang on the one before, from the last one to the first: one comes after the other.
func TestAChainOfWrites(t *testing.T) {
	var l []api.Version
	for i := range 24 {
		v := write(fmt.Sprintf("k%02d", i), i+1)
		if i > 0 {
			v.Past = []api.Dep{on(fmt.Sprintf("k%02d", i-1), i)}
		}
		l = append(l, v)
	}
	for range 2 {
		came, left, _ := all(t, l, nil, everything())
		slices.SortFunc(l, func(a, b api.Version) int { return a.Stamp.N - b.Stamp.N })
		if !sameList(came, l) || len(left) > 0 {
			t.Fatalf("%v came, and %v is left", came, left)
		}
		slices.Reverse(l)
	}
	// Without the first one nothing comes, but what hangs on what is owned elsewhere.
	l = l[:23]
	consequence(t, l, nil, everything())
	if came, left, _ := all(t, l, nil, everything()); len(came) > 0 || len(left) != 23 {
		t.Fatalf("%v came without the first write", came)
	}
	came, left, _ := all(t, l, nil, []api.Range{{From: "k12"}})
	if len(came) != 23 || came[0].Key != "k12" || len(left) > 0 {
		t.Fatalf("%v came without the first write, which is owned elsewhere, and %v is left", came, left)
	}
}

func TestWritesThatWaitForEachOther(t *testing.T) {
	l := []api.Version{write("a", 1, on("b", 2)), write("b", 2, on("c", 3)), write("c", 3, on("a", 1)), write("d", 4, on("d", 4)), write("e", 5)}
	consequence(t, l, nil, everything())
	came, left, _ := all(t, l, nil, everything())
	if !sameList(came, l[4:]) || !sameList(left, l[:4]) {
		t.Errorf("%v came, and %v is left", came, left)
	}
	consequence(t, l, []api.Dep{on("c", 3)}, everything())
	consequence(t, l, nil, []api.Range{{To: "c"}})
	// A later write to the same key is as good as the one that is waited for.
	l = []api.Version{write("b", 3, on("a", 1)), write("a", 5)}
	if came, left, _ := all(t, l, nil, everything()); len(came) != 2 || came[0].Key != "a" || len(left) > 0 {
		t.Errorf("%v came, and %v is left", came, left)
	}
}

func TestAllThatCanComesOfLargerQueues(t *testing.T) {
	r := rand.New(rand.NewPCG(14, 3))
	names := []string{"a", "b", "bz", "c", "d", "m", "z"}
	ranges := lists(someRanges(), 2)
	for range 4000 {
		var l []api.Version
		var have []api.Dep
		for i := range 1 + r.IntN(24) {
			v := write(names[r.IntN(7)], i+1)
			for range r.IntN(4) {
				v.Past = past.Add(v.Past, on(names[r.IntN(7)], 1+r.IntN(i+2)))
			}
			l = append(l, v)
		}
		for range r.IntN(4) {
			have = past.Add(have, on(names[r.IntN(7)], 1+r.IntN(9)))
		}
		r.Shuffle(len(l), func(i, j int) { l[i], l[j] = l[j], l[i] })
		consequence(t, l, have, ranges[r.IntN(len(ranges))])
	}
}

// R4: the same calls, the same results.
func TestSameCallsSameResults(t *testing.T) {
	l, have := wrong(), append(longPast(20), on("b", 3), on("b", 9), on("c", 4))
	run := func() string {
		v, left, ok := Next(l, have, everything())
		return fmt.Sprint(v, left, ok, Misses(l[0], have, everything()), Drop(l, []api.Range{{From: "a!"}}))
	}
	first := run()
	for range 50 {
		if again := run(); again != first {
			t.Fatalf("%s, and then %s", first, again)
		}
	}
}

// R3: what is handed in is neither changed nor kept, and what is handed out is the caller's.

// spoil overwrites all memory that a list has, behind its end too.
func spoil[T any](l []T) { clear(l[:cap(l)]) }

// given are a queue in which the version at an index is ready and no other one, heads and ranges, all with room behind them.
func given(count, ready int) (l []api.Version, have []api.Dep, own []api.Range) {
	l = append(make([]api.Version, 0, 60), free(count)...)
	for i := range l {
		if i != ready {
			l[i].Past = append(make([]api.Dep, 0, 9), on("a", 1), on("b", 9), on("c", 5))
		}
	}
	have = append(make([]api.Dep, 0, 9), on("a", 1), on("b", 2))
	own = append(make([]api.Range, 0, 9), bounded("", "m"), bounded("z", ""))
	// What is behind a list's end is its owner's, too.
	for i := range l[count:60] {
		l[count:60][i] = write("room", 1)
	}
	return l, have, own
}

// unchanged tells whether what was given is as it was.
func unchanged(t *testing.T, why string, ready int, l []api.Version, have []api.Dep, own []api.Range) {
	t.Helper()
	m, haveAgain, ownAgain := given(len(l), ready)
	if !sameList(l[:60], m[:60]) || !slices.Equal(have[:9], haveAgain[:9]) || !slices.Equal(own[:9], ownAgain[:9]) {
		t.Errorf("%s changed what was given", why)
	}
	for i, v := range l {
		if !slices.Equal(v.Past[:cap(v.Past)], m[i].Past[:cap(m[i].Past)]) {
			t.Errorf("%s changed the Past of version %d", why, i)
		}
	}
}

func TestNextSharesNothing(t *testing.T) {
	for _, count := range []int{0, 1, 2, 5, 24} {
		for ready := -1; ready < count; ready++ {
			why := fmt.Sprint("Next of ", count, ", of which ", ready, " is ready")
			l, have, own := given(count, ready)
			m, _, _ := given(count, ready)
			left := next(t, why, l, have, own, ready)
			unchanged(t, why, ready, l, have, own)
			// What is done to the answer is not seen in what was given.
			_ = append(left, write("x", 1))
			spoil(left)
			unchanged(t, why+", its answer spoilt,", ready, l, have, own)
			// What is done to what was given is not seen in the answer.
			left = next(t, why, l, have, own, ready)
			_ = append(l, write("y", 1))
			spoil(l)
			spoil(have)
			spoil(own)
			if !sameList(left, but(m, ready)) {
				t.Errorf("%s: what is left has become %v", why, left)
			}
		}
	}
}

func TestPushSharesNothing(t *testing.T) {
	for _, count := range []int{0, 1, 5, 23} {
		why := fmt.Sprint("Push onto ", count)
		l, have, own := given(count, -1)
		m, _, _ := given(count, -1)
		one, err := Push(l, write("a", 1, on("b", 1)))
		two, again := Push(l, write("c", 2))
		if err != api.OK || again != api.OK {
			t.Fatalf("%s: %v, %v", why, err, again)
		}
		unchanged(t, why, -1, l, have, own)
		spoil(one)
		unchanged(t, why+", its answer spoilt,", -1, l, have, own)
		spoil(l)
		if !sameList(two, append(m, write("c", 2))) {
			t.Errorf("%s: the queue has become %v", why, two)
		}
	}
	// Two that are pushed onto the same answer are apart as well.
	l, _ := Push(nil, write("a", 1))
	for range 22 {
		one, _ := Push(l, write("b", 2))
		two, _ := Push(l, write("c", 3))
		if one[len(l)].Key != "b" || two[len(l)].Key != "c" {
			t.Fatalf("two queues on one of %d share memory: %v, %v", len(l), one, two)
		}
		l = one
	}
}

func TestDropSharesNothing(t *testing.T) {
	for _, count := range []int{0, 1, 5, 24} {
		for _, ranges := range [][]api.Range{everything(), nil, {bounded("k1", "k2")}, {{To: "k1"}, {From: "k2"}}, {{From: "k1"}}, {{To: "k3"}}} {
			why := fmt.Sprint("Drop of ", count, " in ", ranges)
			l, have, _ := given(count, -1)
			m, _, own := given(count, -1)
			asked := slices.Clone(ranges)
			left := Drop(l, asked)
			if !slices.Equal(asked, ranges) {
				t.Errorf("%s changed the ranges to %v", why, asked)
			}
			unchanged(t, why, -1, l, have, own)
			_ = append(left, write("x", 1))
			spoil(left)
			unchanged(t, why+", its answer spoilt,", -1, l, have, own)
			left = Drop(l, asked)
			spoil(l)
			clear(asked)
			if !sameList(left, dropAgain(m, ranges)) {
				t.Errorf("%s: what is left has become %v", why, left)
			}
		}
	}
}

func TestMissesSharesNothing(t *testing.T) {
	for _, c := range []struct {
		heads []api.Dep
		want  []api.Dep
	}{
		{nil, []api.Dep{on("a", 1), on("b", 9), on("c", 5)}},
		{[]api.Dep{on("a", 1)}, []api.Dep{on("b", 9), on("c", 5)}},
		{[]api.Dep{on("b", 9)}, []api.Dep{on("a", 1), on("c", 5)}},
		{[]api.Dep{on("c", 9)}, []api.Dep{on("a", 1), on("b", 9)}},
		{[]api.Dep{on("a", 1), on("b", 9), on("c", 5)}, nil},
	} {
		l, have, own := given(1, -1)
		heads := slices.Clone(c.heads)
		got := Misses(l[0], heads, own)
		Check(l[0], heads, own)
		if !slices.Equal(heads, c.heads) {
			t.Errorf("Misses changed the heads to %v", heads)
		}
		unchanged(t, "Misses", -1, l, have, own)
		_ = append(got, on("x", 1))
		spoil(got)
		unchanged(t, "Misses, its answer spoilt,", -1, l, have, own)
		got = Misses(l[0], heads, own)
		spoil(l[0].Past)
		spoil(own)
		clear(heads)
		if !slices.Equal(got, c.want) {
			t.Errorf("Misses: %v, what was given being spoilt, want %v", got, c.want)
		}
	}
}

// No state is held: what was asked for one queue is nothing to another one.
func TestQueuesAreApart(t *testing.T) {
	l := []api.Version{write("b", 2, on("a", 1))}
	next(t, "a queue", l, []api.Dep{on("a", 1)}, everything(), 0)
	next(t, "a queue, asked again", l, nil, everything(), -1)
	next(t, "a queue, asked again", l, nil, nil, 0)
	next(t, "a queue, asked again", l, nil, everything(), -1)
	misses(t, "asked again", l[0], []api.Dep{on("a", 1)}, everything())
	misses(t, "asked again", l[0], nil, everything(), on("a", 1))
}

// R5: nothing but Push has a limit, and the time goes with the sizes.

func TestLargePastsAndHeads(t *testing.T) {
	const count = 1 << 17
	p := longPast(count)
	v := write("v", 1, p...)
	own := []api.Range{{To: "k000000"}, {From: "k000010"}}
	if got := Misses(v, nil, own); !slices.Equal(got, p[10:]) || Check(v, nil, own) {
		t.Errorf("of %d dependencies %d are missing, want %d", count, len(got), count-10)
	}
	if got := Misses(v, p[:count/2], own); !slices.Equal(got, p[count/2:]) || Check(v, p[:count/2], own) {
		t.Errorf("of %d dependencies %d are missing, want half of them", count, len(got))
	}
	if got := Misses(v, p, own); len(got) > 0 || !Check(v, p, own) {
		t.Errorf("of %d dependencies %d are missing, want none", count, len(got))
	}
	twice := write("v", 1, slices.Concat(p, p)...)
	if got := Misses(twice, p[1:], everything()); !slices.Equal(got, []api.Dep{p[0], p[0]}) {
		t.Errorf("of %d dependencies %d are missing, want the first one, twice", 2*count, len(got))
	}
}

func TestLongQueues(t *testing.T) {
	const count = 1 << 15
	have := longPast(count)
	var l []api.Version
	for i := range count {
		l = append(l, write("a", i+1, slices.Concat(have[i:min(i+20, count)], []api.Dep{on("z", count-i)})...))
	}
	v, left, ok := Next(l, append(have, on("z", 1)), everything())
	if !ok || !sameVersion(v, l[count-1]) || !sameList(left, l[:count-1]) {
		t.Errorf("of %d versions the last one is ready: %t, %d are left", count, ok, len(left))
	}
	v, left, ok = Next(l, append(have, on("z", count/2)), everything())
	if !ok || !sameVersion(v, l[count/2]) || !sameList(left, but(l, count/2)) {
		t.Errorf("of %d versions half are ready: %t, %d are left", count, ok, len(left))
	}
	if _, left, ok = Next(l, have, everything()); ok || !sameList(left, l) {
		t.Errorf("of %d versions none is ready: %t, %d are left", count, ok, len(left))
	}
	if got, err := Push(l, l[0]); err != api.ErrFull || len(got) > 0 {
		t.Errorf("Push onto %d: %d versions, %v", count, len(got), err)
	}
	if got := Drop(l, []api.Range{bounded("b", ""), bounded("a", "a!")}); !sameList(got, l) {
		t.Errorf("Drop leaves %d of %d versions", len(got), count)
	}
	if got := Drop(l, []api.Range{{From: "b"}}); len(got) > 0 {
		t.Errorf("Drop leaves %d versions of a key in no range", len(got))
	}
}

func TestManyRanges(t *testing.T) {
	const count = 1 << 12
	p := longPast(count)
	var own []api.Range
	for i := 0; i < count; i += 2 {
		own = append(own, bounded(p[i].Key, p[i].Key+"!"))
	}
	got := Misses(write("v", 1, p...), p[:count/2], own)
	if len(got) != count/4 || got[0] != p[count/2] || got[len(got)-1] != p[count-2] {
		t.Errorf("of %d dependencies %d are missing, want every second one of the upper half", count, len(got))
	}
	var l []api.Version
	for _, d := range p {
		l = append(l, api.Version{Key: d.Key, Stamp: d.Stamp})
	}
	if left := Drop(l, own); len(left) != count/2 || left[1].Key != p[2].Key {
		t.Errorf("Drop leaves %d of %d versions, want every second one", len(left), count)
	}
}

// What is told where it goes wrong are lengths alone, as all else is long.
func TestLargeInputsThatAreNotValid(t *testing.T) {
	const count = 1 << 16
	long := strings.Repeat("a", count)
	d := api.Dep{Key: long, Stamp: at(math.MaxInt, math.MaxInt)}
	huge := api.Version{Key: long, Value: long, Gone: true, Stamp: d.Stamp, Past: []api.Dep{d, d, {Key: long[1:], Stamp: at(math.MinInt, 0)}}}
	if got, err := Push(make([]api.Version, count), huge); err != api.ErrArg || len(got) > 0 {
		t.Errorf("Push of a huge version: %d versions, %v", len(got), err)
	}
	if got := Misses(huge, slices.Repeat([]api.Dep{{Key: long[1:], Stamp: d.Stamp}}, 99), []api.Range{bounded(long, long[1:]), {}}); len(got) != 2 {
		t.Errorf("a huge version misses %d, want 2", len(got))
	}
	if _, left, ok := Next([]api.Version{huge, huge}, nil, everything()); ok || len(left) != 2 {
		t.Errorf("Next of huge versions: %t, %d are left", ok, len(left))
	}
	if got := Drop([]api.Version{huge, {Key: "b"}, huge}, []api.Range{{From: long, To: "b"}}); len(got) != 2 {
		t.Errorf("Drop of huge versions leaves %d, want 2", len(got))
	}
}

// FuzzQueue reads a queue from bytes: the first one of a version is its key and how many dependencies follow, of one byte each; so are heads.
func FuzzQueue(f *testing.F) {
	f.Add("\x00\x0b\x12\x1a\x10", "\x11\x20", byte(3), "a", 4)
	f.Add("\x1a\x01\x02\x03\x00\x09\x00", "", byte(0), "\xff", -1)
	f.Add("\x3f\x3f\x3f\x3f\x3f\x3f\x3f\x3f", "\x3f\x3e\x3f", byte(0x21), "a b", 1<<40)
	names := []string{"a", "b", "bz", "c", "d", "z", "", "a b"}
	ranges := lists(someRanges(), 2)
	dep := func(b byte) api.Dep { return api.Dep{Key: names[b%8], Stamp: at(int(b/8%8), int(b/64))} }
	f.Fuzz(func(t *testing.T, queue, heads string, owned byte, key string, n int) {
		own := append(slices.Clone(ranges[int(owned)%len(ranges)]), bounded("m", key), bounded(key, "\U0010ffff"))
		var l []api.Version
		for len(queue) > 0 && len(l) < 64 {
			v := api.Version{Key: names[queue[0]%8], Stamp: at(len(l)+1, 2)}
			count := min(int(queue[0]/8%4), len(queue)-1)
			for _, b := range []byte(queue[1 : 1+count]) {
				v.Past = append(v.Past, dep(b))
			}
			l, queue = append(l, v), queue[1+count:]
		}
		l = append(l, api.Version{Key: key, Value: key, Gone: n < 9, Stamp: at(n, 1), Past: []api.Dep{{Key: key, Stamp: at(n, 0)}}})
		var have []api.Dep
		for _, b := range []byte(heads) {
			have = append(have, dep(b))
		}
		for i, v := range l {
			misses(t, "a fuzzed version", v, have, own, missesAgain(v, have, own)...)
			got, err := Push(l[:i], v)
			switch valid := validAgain(v); {
			case !valid && err == api.ErrArg && len(got) == 0:
			case valid && i >= 24 && err == api.ErrFull && len(got) == 0:
			case valid && i < 24 && err == api.OK && sameList(got, l[:i+1]):
			default:
				t.Fatalf("Push of %v onto a queue of %d: %v, %v", v, i, got, err)
			}
		}
		next(t, "a fuzzed queue", l, have, own, nextAgain(l, have, own))
		drops(t, "a fuzzed queue", l, own, dropAgain(l, own))
		consequence(t, l, past.Merge(have), own)
	})
}
