package chain

import (
	"fmt"
	"math"
	"math/rand/v2"
	"slices"
	"strings"
	"testing"
	"unicode/utf8"

	"archipelago/api"
)

// at is a timestamp.
func at(n, site int) api.Stamp { return api.Stamp{N: n, Site: site} }

// times is timestamps of site 1.
func times(numbers ...int) []api.Stamp {
	var l []api.Stamp
	for _, n := range numbers {
		l = append(l, at(n, 1))
	}
	return l
}

// write is a version of a key, with a value and a past by which it is told from others.
func write(key string, s api.Stamp) api.Version {
	return api.Version{
		Key: key, Value: fmt.Sprint(s.N, " of ", s.Site), Stamp: s,
		Past: []api.Dep{{Key: "b", Stamp: at(s.N&63+1, 0)}, {Key: "c", Stamp: at(1, s.Site&3)}},
	}
}

// writes is a version of key "a" for each timestamp.
func writes(stamps ...api.Stamp) []api.Version {
	var l []api.Version
	for _, s := range stamps {
		l = append(l, write("a", s))
	}
	return l
}

// of is a chain of versions of site 1.
func of(numbers ...int) []api.Version { return writes(times(numbers...)...) }

// deps is a past of so many keys, valid but for its length.
func deps(count int) []api.Dep {
	var p []api.Dep
	for i := range count {
		p = append(p, api.Dep{Key: fmt.Sprintf("k%02d", i), Stamp: at(i+1, i%api.MaxSites)})
	}
	return p
}

// changed is v after a change.
func changed(v api.Version, change func(*api.Version)) api.Version {
	v.Past = slices.Clone(v.Past)
	change(&v)
	return v
}

// wrong are versions of key "a" at 5 of site 1, or nearly so, which are not valid.
func wrong() []api.Version {
	set := func(change func(*api.Version)) api.Version { return changed(of(5)[0], change) }
	return []api.Version{
		set(func(v *api.Version) { v.Stamp = api.Stamp{} }),
		set(func(v *api.Version) { v.Stamp.N = 0 }),
		set(func(v *api.Version) { v.Stamp.N = -5 }),
		set(func(v *api.Version) { v.Stamp.N = 1<<40 + 1 }),
		set(func(v *api.Version) { v.Stamp.N = math.MaxInt }),
		set(func(v *api.Version) { v.Stamp.N = math.MinInt }),
		set(func(v *api.Version) { v.Stamp.Site = 6 }),
		set(func(v *api.Version) { v.Stamp.Site = -1 }),
		set(func(v *api.Version) { v.Value = strings.Repeat("v", 33) }),
		set(func(v *api.Version) { v.Gone = true }),
		set(func(v *api.Version) { v.Past = deps(25) }),
		set(func(v *api.Version) { v.Past[0].Key = "d" }),
		set(func(v *api.Version) { v.Past[0].Key = "b b" }),
		set(func(v *api.Version) { v.Past[1].Stamp.N = 0 }),
	}
}

// wrongKeys are keys that are not valid.
func wrongKeys() []string { return []string{"", "a b", "aaaaaaaaa", "a\xff"} }

// What the chapter says, by other means than the program's.

func greater(a, b api.Stamp) bool { return a.N > b.N || a.N == b.N && a.Site > b.Site }

func keyAgain(s string) bool {
	n := utf8.RuneCountInString(s)
	low := func(r rune) bool { return r < 0x21 }
	return utf8.ValidString(s) && n >= 1 && n <= 8 && !strings.ContainsFunc(s, low)
}

func stampAgain(s api.Stamp) bool { return 1 <= s.N && s.N <= 1<<40 && 0 <= s.Site && s.Site <= 5 }

func validAgain(v api.Version) bool {
	for i, d := range v.Past {
		if !keyAgain(d.Key) || !stampAgain(d.Stamp) || i > 0 && v.Past[i-1].Key >= d.Key {
			return false
		}
	}
	return keyAgain(v.Key) && stampAgain(v.Stamp) && len(v.Past) <= 24 && len(v.Value) <= 32 && !(v.Gone && len(v.Value) > 0)
}

func sameVersion(a, b api.Version) bool {
	return a.Key == b.Key && a.Value == b.Value && a.Gone == b.Gone && a.Stamp == b.Stamp && slices.Equal(a.Past, b.Past)
}

func sameList(a, b []api.Version) bool { return slices.EqualFunc(a, b, sameVersion) }

// checkAgain holds every version against every other one.
func checkAgain(l []api.Version) bool {
	for i, v := range l {
		for j, w := range l {
			if v.Key != w.Key || i < j && !greater(w.Stamp, v.Stamp) {
				return false
			}
		}
		if !validAgain(v) {
			return false
		}
	}
	return true
}

// putAgain appends and sorts.
func putAgain(l []api.Version, v api.Version) ([]api.Version, bool) {
	for _, x := range l {
		if x.Key != v.Key || x.Stamp == v.Stamp {
			return l, false
		}
	}
	if !validAgain(v) {
		return l, false
	}
	out := append(slices.Clone(l), v)
	slices.SortFunc(out, func(a, b api.Version) int {
		if greater(a.Stamp, b.Stamp) {
			return 1
		}
		return -1
	})
	return out, true
}

// belowAgain is the index of the version with the greatest timestamp of those that are not too great, or -1.
func belowAgain(l []api.Version, s api.Stamp) int {
	best := -1
	for i, v := range l {
		if !greater(v.Stamp, s) && (best < 0 || greater(v.Stamp, l[best].Stamp)) {
			best = i
		}
	}
	return best
}

func atAgain(l []api.Version, s api.Stamp) int {
	for i, v := range l {
		if v.Stamp.N == s.N && v.Stamp.Site == s.Site {
			return i
		}
	}
	return -1
}

func keepsAgain(l []api.Version, stable api.Stamp, pins []api.Stamp, v api.Version) bool {
	for _, s := range pins {
		if v.Stamp == s {
			return true
		}
	}
	if !greater(stable, v.Stamp) {
		return true
	}
	last, below := len(l)-1, belowAgain(l, stable)
	return last >= 0 && sameVersion(v, l[last]) || below >= 0 && sameVersion(v, l[below])
}

func cleanAgain(l []api.Version, stable api.Stamp, pins []api.Stamp) []api.Version {
	var out []api.Version
	for _, v := range l {
		if keepsAgain(l, stable, pins, v) {
			out = append(out, v)
		}
	}
	return out
}

// gives tells of an answer that is not the version at an index of the list, or none where the index is below 0.
func gives(t *testing.T, why string, l []api.Version, want int, v api.Version, ok bool) {
	t.Helper()
	if want < 0 {
		if ok || !sameVersion(v, api.Version{}) || v.Past != nil {
			t.Fatalf("%s of %v: %v, %t, want the zero version, false", why, l, v, ok)
		}
		return
	}
	if !ok || !sameVersion(v, l[want]) {
		t.Fatalf("%s of %v: %v, %t, want %v, true", why, l, v, ok, l[want])
	}
}

// asks holds the queries on a valid chain against what the chapter says.
func asks(t *testing.T, l []api.Version, stamps []api.Stamp) {
	t.Helper()
	if !Check(l) {
		t.Fatalf("Check(%v): false, want true", l)
	}
	v, ok := Head(l)
	gives(t, "Head", l, len(l)-1, v, ok)
	for _, s := range stamps {
		v, ok = At(l, s)
		gives(t, fmt.Sprint("At ", s), l, atAgain(l, s), v, ok)
		v, ok = Below(l, s)
		gives(t, fmt.Sprint("Below ", s), l, belowAgain(l, s), v, ok)
	}
}

// puts holds Put of a version into a valid chain against what the chapter says, and returns what Put gave.
func puts(t *testing.T, l []api.Version, v api.Version) []api.Version {
	t.Helper()
	got, ok := Put(l, v)
	want, there := putAgain(l, v)
	if ok != there || !sameList(got, want) {
		t.Fatalf("Put(%v, %v): %v, %t, want %v, %t", l, v, got, ok, want, there)
	}
	return got
}

// cleans holds Clean and Keeps of a valid chain against what the chapter says, its consequences among it.
func cleans(t *testing.T, l []api.Version, stable api.Stamp, pins []api.Stamp, later []api.Stamp) {
	t.Helper()
	got := Clean(l, stable, pins)
	if want := cleanAgain(l, stable, pins); !sameList(got, want) {
		t.Fatalf("Clean(%v, %v, %v): %v, want %v", l, stable, pins, got, want)
	}
	for _, v := range l {
		if kept, want := Keeps(l, stable, pins, v), keepsAgain(l, stable, pins, v); kept != want {
			t.Fatalf("Keeps(%v, %v, %v, %v): %t, want %t", l, stable, pins, v, kept, want)
		}
	}
	head, _ := Head(l)
	if now, _ := Head(got); !sameVersion(now, head) || !Check(got) {
		t.Fatalf("Clean(%v, %v, %v): %v, which is no chain with the same head", l, stable, pins, got)
	}
	for _, s := range pins {
		old, _ := At(l, s)
		if now, _ := At(got, s); !sameVersion(now, old) {
			t.Fatalf("Clean(%v, %v, %v): %v, which lacks %v", l, stable, pins, got, s)
		}
	}
	for _, s := range append(later, stable) {
		old, _ := Below(l, s)
		if now, _ := Below(got, s); !greater(stable, s) && !sameVersion(now, old) {
			t.Fatalf("Clean(%v, %v, %v): below %v there is %v, want %v", l, stable, pins, s, now, old)
		}
	}
	if again := Clean(got, stable, pins); !sameList(again, got) {
		t.Fatalf("Clean(%v, %v, %v), which Clean gave: %v", got, stable, pins, again)
	}
}

// subsets is all lists out of l, each element at most once, in order.
func subsets[T any](l []T) [][]T {
	all := [][]T{nil}
	for _, x := range l {
		for _, s := range all {
			all = append(all, append(slices.Clone(s), x))
		}
	}
	return all
}

// lists is all lists of at most so many out of l, in any order and any number of times.
func lists[T any](l []T, most int) [][]T {
	all := [][]T{nil}
	for from := 0; most > 0; most-- {
		grown := len(all)
		for _, s := range all[from:grown] {
			for _, x := range l {
				all = append(all, append(slices.Clone(s), x))
			}
		}
		from = grown
	}
	return all
}

// orders is all orders of the elements of l.
func orders[T any](l []T) [][]T {
	if len(l) == 0 {
		return [][]T{nil}
	}
	var all [][]T
	for i, x := range l {
		for _, rest := range orders(slices.Concat(l[:i], l[i+1:])) {
			all = append(all, append(rest, x))
		}
	}
	return all
}

// few are valid timestamps in order: the least and the greatest one, and equal numbers of different sites.
func few() []api.Stamp {
	return []api.Stamp{at(1, 0), at(3, 1), at(3, 2), at(4, 0), at(7, 5), at(1<<40, 5)}
}

// around are the few, those beside and between them, and some that are not valid.
func around() []api.Stamp {
	return append(few(), []api.Stamp{
		{}, at(1, 1), at(2, 3), at(3, 0), at(3, 3), at(5, 0), at(7, 4), at(8, 0), at(1<<40, 4), at(1<<40+1, 0),
		at(0, 5), at(3, -1), at(3, 6), at(-1, 0), at(math.MinInt, math.MaxInt), at(math.MaxInt, math.MinInt),
	}...)
}

// P12.1

func TestCheck(t *testing.T) {
	full := func(pasts, value int) []api.Version {
		return append(of(3), api.Version{Key: "a", Value: strings.Repeat("v", value), Stamp: at(5, 1), Past: deps(pasts)})
	}
	for _, c := range []struct {
		why  string
		l    []api.Version
		want bool
	}{
		{"no list", nil, true},
		{"an empty list", []api.Version{}, true},
		{"one version", of(3), true},
		{"four versions", of(1, 3, 4, 7), true},
		{"one number, two sites", writes(at(3, 1), at(3, 2)), true},
		{"one number, two sites, falling", writes(at(3, 2), at(3, 1)), false},
		{"a greater number, a less site", writes(at(3, 5), at(4, 0)), true},
		{"a less number, a greater site", writes(at(4, 0), at(3, 5)), false},
		{"the least and the greatest timestamp", writes(at(1, 0), at(1<<40, 5)), true},
		{"in the wrong order", of(3, 1), false},
		{"in the wrong order at the end", of(1, 3, 7, 4), false},
		{"in the wrong order at the front", of(3, 1, 4, 7), false},
		{"a timestamp twice", of(3, 3), false},
		{"a timestamp twice at the end", of(1, 3, 7, 7), false},
		{"a timestamp twice, apart", of(1, 3, 1), false},
		{"a timestamp twice, the versions different", []api.Version{of(3)[0], {Key: "a", Stamp: at(3, 1)}}, false},
		{"two keys", []api.Version{write("a", at(1, 1)), write("b", at(2, 1))}, false},
		{"two keys, at the end", append(of(1, 3, 4), write("b", at(7, 1))), false},
		{"two keys, at the front", append([]api.Version{write("b", at(1, 1))}, of(3, 4, 7)...), false},
		{"two keys by turns", []api.Version{write("a", at(1, 1)), write("b", at(2, 1)), write("a", at(3, 1))}, false},
		{"a key that goes on", []api.Version{write("a", at(1, 1)), write("aa", at(2, 1))}, false},
		{"the zero version", make([]api.Version, 1), false},
		{"a version as long as it may be", full(24, 32), true},
		{"a past that is too long", full(25, 32), false},
		{"a value that is too long", full(24, 33), false},
		{"versions that are gone", []api.Version{{Key: "a", Gone: true, Stamp: at(1, 1)}, {Key: "a", Gone: true, Stamp: at(2, 1)}}, true},
	} {
		if got := Check(c.l); got != c.want || checkAgain(c.l) != c.want {
			t.Errorf("Check, %s: %t, want %t", c.why, got, c.want)
		}
	}
}

func TestCheckOfVersionsThatAreNotValid(t *testing.T) {
	for _, v := range wrong() {
		for _, l := range [][]api.Version{{v}, append(of(1, 3), v), append([]api.Version{v}, of(7, 8)...), slices.Insert(of(1, 7), 1, v)} {
			if Check(l) {
				t.Errorf("Check(%v): true, want false", l)
			}
		}
	}
	for _, key := range wrongKeys() {
		if l := []api.Version{write(key, at(1, 1)), write(key, at(2, 1))}; Check(l) || Check(l[:1]) {
			t.Errorf("Check of key %q: true, want false", key)
		}
	}
}

func TestPut(t *testing.T) {
	for _, c := range []struct {
		why  string
		l    []api.Version
		v    api.Version
		want []api.Version
	}{
		{"into no list", nil, of(5)[0], of(5)},
		{"into an empty list", []api.Version{}, of(5)[0], of(5)},
		{"ahead of one", of(7), of(5)[0], of(5, 7)},
		{"behind one", of(3), of(5)[0], of(3, 5)},
		{"ahead of all", of(2, 3, 4, 7), of(1)[0], of(1, 2, 3, 4, 7)},
		{"between the first two", of(1, 3, 4, 7), of(2)[0], of(1, 2, 3, 4, 7)},
		{"between the last two", of(1, 3, 4, 7), of(6)[0], of(1, 3, 4, 6, 7)},
		{"behind all", of(1, 3, 4, 7), of(9)[0], of(1, 3, 4, 7, 9)},
		{"the same number, a less site", of(1, 3, 4), write("a", at(3, 0)), writes(at(1, 1), at(3, 0), at(3, 1), at(4, 1))},
		{"the same number, a greater site", of(1, 3, 4), write("a", at(3, 2)), writes(at(1, 1), at(3, 1), at(3, 2), at(4, 1))},
		{"a less number, a greater site", of(3, 4), write("a", at(2, 5)), writes(at(2, 5), at(3, 1), at(4, 1))},
		{"a greater number, a less site", of(3, 4), write("a", at(5, 0)), writes(at(3, 1), at(4, 1), at(5, 0))},
		{"the least timestamp", of(1), write("a", at(1, 0)), writes(at(1, 0), at(1, 1))},
		{"the greatest timestamp", of(1), write("a", at(1<<40, 5)), writes(at(1, 1), at(1<<40, 5))},
		{"one that is gone", nil, api.Version{Key: "a", Gone: true, Stamp: at(1, 1)}, []api.Version{{Key: "a", Gone: true, Stamp: at(1, 1)}}},
	} {
		if got, ok := Put(c.l, c.v); !ok || !sameList(got, c.want) {
			t.Errorf("Put, %s: %v, %t, want %v, true", c.why, got, ok, c.want)
		}
	}
}

func TestPutOfWhatIsRefused(t *testing.T) {
	refuses := func(why string, l []api.Version, v api.Version) {
		t.Helper()
		before := slices.Clone(l)
		if got, ok := Put(l, v); ok || !sameList(got, before) {
			t.Errorf("Put, %s, of %v into %v: %v, %t, want the list, false", why, v, before, got, ok)
		}
	}
	chains := [][]api.Version{nil, {}, of(3), of(1, 3, 4, 7), of(6, 7), writes(few()...)}
	for _, l := range chains {
		for _, v := range wrong() {
			refuses("not valid", l, v)
		}
		for _, key := range wrongKeys() {
			refuses("a wrong key", l, write(key, at(5, 1)))
		}
		refuses("the zero version", l, api.Version{})
	}
	for _, l := range chains[2:] {
		for _, n := range []int{1, 2, 5, 100} {
			refuses("another key", l, write("b", at(n, 3)))
			refuses("a key that goes on", l, write("aa", at(n, 3)))
			refuses("a key that is less", l, write("A", at(n, 3)))
		}
		for _, v := range l {
			refuses("there already", l, v)
			refuses("there already, with another value", l, changed(v, func(v *api.Version) { v.Value = "other" }))
			refuses("there already, with another past", l, changed(v, func(v *api.Version) { v.Past = nil }))
			refuses("there already, and gone", l, changed(v, func(v *api.Version) { v.Value, v.Gone = "", true }))
			refuses("there already, with another key", l, changed(v, func(v *api.Version) { v.Key = "b" }))
		}
	}
}

func TestPutInEveryOrder(t *testing.T) {
	all := writes(few()...)
	for _, order := range orders(all) {
		var l []api.Version
		for i, v := range order {
			l = puts(t, l, v)
			asks(t, l, few())
			if again := puts(t, l, order[i/2]); !sameList(again, l) {
				t.Fatalf("Put of %v once more: %v, want %v", order[i/2], again, l)
			}
		}
		if !sameList(l, all) {
			t.Fatalf("Put of %v one by one: %v", order, l)
		}
	}
}

// P12.2

func TestQueriesOfNothing(t *testing.T) {
	for _, l := range [][]api.Version{nil, {}} {
		v, ok := Head(l)
		gives(t, "Head", l, -1, v, ok)
		for _, s := range around() {
			v, ok = At(l, s)
			gives(t, "At", l, -1, v, ok)
			v, ok = Below(l, s)
			gives(t, "Below", l, -1, v, ok)
		}
	}
}

func TestQueries(t *testing.T) {
	l := writes(at(2, 3), at(4, 1), at(4, 4), at(9, 0))
	v, ok := Head(l)
	gives(t, "Head", l, 3, v, ok)
	for _, c := range []struct {
		why       string
		s         api.Stamp
		at, below int
	}{
		{"the zero timestamp", api.Stamp{}, -1, -1},
		{"below all", at(1, 5), -1, -1},
		{"below all by the site alone", at(2, 2), -1, -1},
		{"at the first one", at(2, 3), 0, 0},
		{"above the first one by the site alone", at(2, 4), -1, 0},
		{"between the first two", at(3, 0), -1, 0},
		{"below the second one by the site alone", at(4, 0), -1, 0},
		{"at the second one", at(4, 1), 1, 1},
		{"between two of equal N", at(4, 2), -1, 1},
		{"at the third one", at(4, 4), 2, 2},
		{"above the third one by the site alone", at(4, 5), -1, 2},
		{"between the last two", at(8, 5), -1, 2},
		{"at the last one", at(9, 0), 3, 3},
		{"above the last one by the site alone", at(9, 1), -1, 3},
		{"above all", at(10, 0), -1, 3},
		{"the greatest one", at(1<<40, 5), -1, 3},
		{"a number below 0", at(-4, 1), -1, -1},
		{"the least number", at(math.MinInt, 0), -1, -1},
		{"the greatest number", at(math.MaxInt, -1), -1, 3},
		{"a site below 0", at(4, -1), -1, 0},
		{"a site that is none", at(4, 6), -1, 2},
		{"the greatest site", at(2, math.MaxInt), -1, 0},
		{"the least site", at(9, math.MinInt), -1, 2},
	} {
		v, ok := At(l, c.s)
		gives(t, "At, "+c.why, l, c.at, v, ok)
		v, ok = Below(l, c.s)
		gives(t, "Below, "+c.why, l, c.below, v, ok)
	}
}

func TestQueriesOfAllSmallChains(t *testing.T) {
	for _, stamps := range subsets(few()) {
		l := writes(stamps...)
		asks(t, l, around())
		for _, s := range around() {
			puts(t, l, write("a", s))
		}
	}
}

// P12.3

func TestClean(t *testing.T) {
	for _, c := range []struct {
		why    string
		l      []api.Version
		stable api.Stamp
		pins   []api.Stamp
		want   []api.Version
	}{
		{why: "no list", stable: at(5, 1)},
		{why: "an empty list", l: []api.Version{}, stable: at(5, 1), pins: times(5)},
		{why: "the chapter's example", l: of(1, 3, 4, 7), stable: at(5, 1), pins: times(1), want: of(1, 4, 7)},
		{why: "no pins", l: of(1, 3, 4, 7), stable: at(5, 1), want: of(4, 7)},
		{why: "pins that are not in the chain", l: of(1, 3, 4, 7), stable: at(5, 1), pins: times(2, 5, 6, 9), want: of(4, 7)},
		{why: "pins of other sites", l: of(1, 3, 4, 7), stable: at(5, 1), pins: []api.Stamp{at(1, 0), at(3, 2)}, want: of(4, 7)},
		{why: "pins that are not valid", l: of(1, 3, 4, 7), stable: at(5, 1), pins: []api.Stamp{{}, at(-1, 0), at(3, -1)}, want: of(4, 7)},
		{why: "a pin twice", l: of(1, 3, 4, 7), stable: at(5, 1), pins: times(3, 3), want: of(3, 4, 7)},
		{why: "pins in no order", l: of(1, 3, 4, 7), stable: at(9, 1), pins: times(4, 8, 1), want: of(1, 4, 7)},
		{why: "all are pinned", l: of(1, 3, 4, 7), stable: at(9, 1), pins: times(1, 3, 4, 7), want: of(1, 3, 4, 7)},
		{why: "pins of what is retained anyway", l: of(1, 3, 4, 7), stable: at(5, 1), pins: times(4, 7), want: of(4, 7)},
		{why: "the zero timestamp is stable", l: of(1, 3, 4, 7), want: of(1, 3, 4, 7)},
		{why: "stable below the chain", l: of(2, 3, 4, 7), stable: at(1, 5), want: of(2, 3, 4, 7)},
		{why: "stable below the chain by the site alone", l: of(2, 3, 4, 7), stable: at(2, 0), want: of(2, 3, 4, 7)},
		{why: "stable at the first one", l: of(2, 3, 4, 7), stable: at(2, 1), want: of(2, 3, 4, 7)},
		{why: "stable above the first one by the site alone", l: of(2, 3, 4, 7), stable: at(2, 2), want: of(2, 3, 4, 7)},
		{why: "stable at the second one", l: of(2, 3, 4, 7), stable: at(3, 1), want: of(3, 4, 7)},
		{why: "stable below the third one by the site alone", l: of(2, 3, 4, 7), stable: at(4, 0), want: of(3, 4, 7)},
		{why: "stable at the third one", l: of(2, 3, 4, 7), stable: at(4, 1), want: of(4, 7)},
		{why: "stable above the third one by the site alone", l: of(2, 3, 4, 7), stable: at(4, 2), want: of(4, 7)},
		{why: "stable at the last one", l: of(2, 3, 4, 7), stable: at(7, 1), want: of(7)},
		{why: "stable above the chain", l: of(2, 3, 4, 7), stable: at(9, 1), want: of(7)},
		{why: "stable above the chain, one pin", l: of(2, 3, 4, 7), stable: at(9, 1), pins: times(3), want: of(3, 7)},
		{why: "stable at the greatest number", l: of(2, 3, 4, 7), stable: at(math.MaxInt, 0), want: of(7)},
		{why: "stable at the least number", l: of(2, 3, 4, 7), stable: at(math.MinInt, 0), want: of(2, 3, 4, 7)},
		{why: "one version, stable above it", l: of(2), stable: at(9, 1), want: of(2)},
		{why: "equal N, stable at the greater site", l: writes(at(3, 1), at(3, 2), at(3, 4)), stable: at(3, 4), want: writes(at(3, 4))},
		{why: "equal N, stable between two sites", l: writes(at(3, 1), at(3, 2), at(3, 4)), stable: at(3, 3), want: writes(at(3, 2), at(3, 4))},
		{why: "equal N, one pin", l: writes(at(3, 1), at(3, 2), at(3, 4)), stable: at(9, 0), pins: []api.Stamp{at(3, 1)}, want: writes(at(3, 1), at(3, 4))},
	} {
		if got := Clean(c.l, c.stable, c.pins); !sameList(got, c.want) {
			t.Errorf("Clean, %s: %v, want %v", c.why, got, c.want)
		}
		cleans(t, c.l, c.stable, c.pins, around())
	}
}

func TestKeeps(t *testing.T) {
	l := of(1, 3, 4, 7)
	other := func(n int, change func(*api.Version)) api.Version { return changed(of(n)[0], change) }
	for _, c := range []struct {
		why    string
		l      []api.Version
		stable api.Stamp
		pins   []api.Stamp
		v      api.Version
		want   bool
	}{
		{"the last version", l, at(9, 1), nil, of(7)[0], true},
		{"the last version, far below stable", l, at(1<<40, 5), nil, of(7)[0], true},
		{"the last version but one, stable above the chain", l, at(9, 1), nil, of(4)[0], false},
		{"the first version", l, at(5, 1), nil, of(1)[0], false},
		{"a pinned one", l, at(5, 1), times(9, 1), of(1)[0], true},
		{"another one is pinned", l, at(5, 1), times(3), of(1)[0], false},
		{"its number is pinned for another site", l, at(5, 1), []api.Stamp{at(1, 0), at(1, 2)}, of(1)[0], false},
		{"at stable", l, at(3, 1), nil, of(3)[0], true},
		{"above stable by the site alone", l, at(4, 0), nil, of(4)[0], true},
		{"above stable", l, at(3, 1), nil, of(4)[0], true},
		{"the one that Below returns", l, at(5, 1), nil, of(4)[0], true},
		{"the one that Below returns, by the site alone", l, at(4, 2), nil, of(4)[0], true},
		{"the one ahead of that", l, at(5, 1), nil, of(3)[0], false},
		{"the one ahead of stable", l, at(4, 1), nil, of(3)[0], false},
		{"stable is the zero timestamp", l, api.Stamp{}, nil, of(1)[0], true},
		{"not in the chain, below stable", l, at(5, 1), nil, of(2)[0], false},
		{"not in the chain, right below stable", l, at(6, 1), nil, of(5)[0], false},
		{"not in the chain, pinned", l, at(5, 1), times(2), of(2)[0], true},
		{"not in the chain, at stable", l, at(5, 1), nil, of(5)[0], true},
		{"not in the chain, above stable", l, at(5, 1), nil, of(6)[0], true},
		{"not in the chain, above the chain and stable", l, at(5, 1), nil, of(9)[0], true},
		{"not in the chain, above the chain, below stable", l, at(9, 1), nil, of(8)[0], false},
		{"not in the chain, another key", l, at(5, 1), nil, write("b", at(4, 1)), false},
		{"not in the chain, another key at the last timestamp", l, at(9, 1), nil, write("b", at(7, 1)), false},
		{"not in the chain, another value", l, at(5, 1), nil, other(4, func(v *api.Version) { v.Value = "other" }), false},
		{"not in the chain, another past", l, at(5, 1), nil, other(4, func(v *api.Version) { v.Past = v.Past[:1] }), false},
		{"not in the chain, another value at the last timestamp", l, at(9, 1), nil, other(7, func(v *api.Version) { v.Value = "" }), false},
		{"not in the chain, gone at the last timestamp", l, at(9, 1), nil, other(7, func(v *api.Version) { v.Value, v.Gone = "", true }), false},
		{"not in the chain, the zero version", l, at(5, 1), nil, api.Version{}, false},
		{"not in the chain, the zero version, pinned", l, at(5, 1), make([]api.Stamp, 1), api.Version{}, true},
		{"a past that is empty in place of nil", []api.Version{{Key: "a", Stamp: at(3, 1)}}, at(9, 1), nil, api.Version{Key: "a", Stamp: at(3, 1), Past: []api.Dep{}}, true},
		{"an empty chain, below stable", nil, at(5, 1), nil, of(4)[0], false},
		{"an empty chain, at stable", nil, at(5, 1), nil, of(5)[0], true},
		{"an empty chain, pinned", nil, at(5, 1), times(4), of(4)[0], true},
		{"an empty chain, the zero version", nil, at(5, 1), nil, api.Version{}, false},
		{"an empty chain, the zero version and timestamp", nil, api.Stamp{}, nil, api.Version{}, true},
	} {
		if got := Keeps(c.l, c.stable, c.pins, c.v); got != c.want || keepsAgain(c.l, c.stable, c.pins, c.v) != c.want {
			t.Errorf("Keeps, %s: %t, want %t", c.why, got, c.want)
		}
	}
}

// P12.3 and P12.4: every chain of the few timestamps, every stable timestamp around them, every set of some pins.
func TestCleanOfAllSmallChains(t *testing.T) {
	pins := subsets([]api.Stamp{at(1, 0), at(3, 1), at(3, 3), at(4, 0), at(1<<40, 5), {}})
	for _, stamps := range subsets(few()) {
		l := writes(stamps...)
		for _, stable := range around() {
			for _, p := range pins {
				cleans(t, l, stable, p, around())
			}
		}
	}
}

func TestKeepsOfAnyVersion(t *testing.T) {
	pins := lists([]api.Stamp{at(1, 0), at(3, 1), at(3, 3)}, 2)
	for _, stamps := range subsets(few()) {
		l := writes(stamps...)
		for _, s := range around() {
			for _, v := range []api.Version{write("a", s), write("b", s), {Key: "a", Stamp: s}} {
				for _, stable := range around() {
					for _, p := range pins {
						if got, want := Keeps(l, stable, p, v), keepsAgain(l, stable, p, v); got != want {
							t.Fatalf("Keeps(%v, %v, %v, %v): %t, want %t", l, stable, p, v, got, want)
						}
					}
				}
			}
		}
	}
}

// P12.4: chains that grow and are cleaned by turns tell the same as those that are never cleaned.
func TestCleanedChainsTellTheSame(t *testing.T) {
	r := rand.New(rand.NewPCG(12, 4))
	for range 300 {
		var whole, cleaned []api.Version
		var stable api.Stamp
		var pins []api.Stamp
		for range 60 {
			// What is stable does not go back, and nothing arrives below it.
			s := at(max(stable.N, 1)+r.IntN(12), r.IntN(6))
			if !greater(stable, s) {
				v := write("a", s)
				whole = puts(t, whole, v)
				cleaned = puts(t, cleaned, v)
			}
			if r.IntN(4) == 0 {
				if next := at(max(stable.N, 1)+r.IntN(3), r.IntN(6)); greater(next, stable) {
					stable = next
				}
				v, _ := Below(cleaned, stable)
				pins = append(pins, v.Stamp)
				cleaned = Clean(cleaned, stable, pins)
			}
			for n := range 14 {
				x := at(stable.N+n, (stable.Site+n)%7)
				if greater(stable, x) {
					continue
				}
				a, _ := Below(whole, x)
				if b, _ := Below(cleaned, x); !sameVersion(a, b) {
					t.Fatalf("below %v, stable %v: %v in the cleaned chain, want %v", x, stable, b, a)
				}
			}
			for _, x := range pins {
				a, _ := At(whole, x)
				if b, _ := At(cleaned, x); !sameVersion(a, b) {
					t.Fatalf("at the pin %v, stable %v: %v in the cleaned chain, want %v", x, stable, b, a)
				}
			}
		}
	}
}

// P1: chains that are not valid, and wrong inputs of all kinds.
func TestListsThatAreNoChains(t *testing.T) {
	some := append(of(3, 5), write("a", at(3, 2)), write("b", at(4, 1)), write("b", at(3, 1)), write("", at(9, 0)), api.Version{})
	some = append(some, wrong()[3], wrong()[5], wrong()[10])
	for _, l := range lists(some, 4) {
		before := slices.Clone(l)
		if got, want := Check(l), checkAgain(l); got != want {
			t.Fatalf("Check(%v): %t, want %t", l, got, want)
		}
		for _, v := range some {
			Put(l, v)
			Keeps(l, v.Stamp, times(3), v)
			Keeps(l, at(9, 9), nil, v)
			At(l, v.Stamp)
			Below(l, v.Stamp)
			Clean(l, v.Stamp, times(5))
		}
		Head(l)
		if !sameList(l, before) {
			t.Fatalf("%v was changed to %v", before, l)
		}
	}
}

func TestWrongTimestamps(t *testing.T) {
	for _, l := range [][]api.Version{nil, of(3), of(1, 3, 4, 7), wrong(), append(of(5), wrong()...)} {
		for _, a := range around() {
			At(l, a)
			Below(l, a)
			for _, b := range around() {
				Clean(l, a, []api.Stamp{b})
				for _, v := range append(wrong(), write("a", a)) {
					Keeps(l, a, []api.Stamp{b, a}, v)
				}
			}
		}
	}
}

// R3: what is handed in is neither changed nor kept, but for the pasts inside of versions, which are shared.
func TestAnswersShareNoList(t *testing.T) {
	calls := map[string]func(l []api.Version, pins []api.Stamp) []api.Version{
		"Put ahead":           func(l []api.Version, _ []api.Stamp) []api.Version { return put(l, of(1)[0]) },
		"Put between":         func(l []api.Version, _ []api.Stamp) []api.Version { return put(l, of(4)[0]) },
		"Put behind":          func(l []api.Version, _ []api.Stamp) []api.Version { return put(l, of(9)[0]) },
		"Put of what's there": func(l []api.Version, _ []api.Stamp) []api.Version { return put(l, of(3)[0]) },
		"Put of another key":  func(l []api.Version, _ []api.Stamp) []api.Version { return put(l, write("b", at(9, 1))) },
		"Put of a wrong one":  func(l []api.Version, _ []api.Stamp) []api.Version { return put(l, wrong()[0]) },
		"Clean of all":        func(l []api.Version, pins []api.Stamp) []api.Version { return Clean(l, at(9, 1), pins) },
		"Clean of nothing":    func(l []api.Version, pins []api.Stamp) []api.Version { return Clean(l, api.Stamp{}, pins) },
		"Clean of the first":  func(l []api.Version, pins []api.Stamp) []api.Version { return Clean(l, at(3, 1), pins) },
		"Clean, pinned":       func(l []api.Version, pins []api.Stamp) []api.Version { return Clean(l, at(9, 1), times(2, 5)) },
		"Keeps": func(l []api.Version, pins []api.Stamp) []api.Version {
			Keeps(l, at(5, 1), pins, of(2)[0])
			return nil
		},
		"queries": func(l []api.Version, _ []api.Stamp) []api.Version {
			Check(l)
			a, _ := Head(l)
			b, _ := At(l, at(3, 1))
			c, _ := Below(l, at(4, 1))
			return []api.Version{a, b, c}
		},
	}
	for name, call := range calls {
		// What is behind the list is its owner's too: an append to the list would write over it.
		whole, pins := of(2, 3, 5, 7, 8, 9), times(3, 4)
		got := call(whole[:4], pins)
		want := slices.Clone(got)
		if !sameList(whole, of(2, 3, 5, 7, 8, 9)) || !slices.Equal(pins, times(3, 4)) {
			t.Errorf("%s changed what it was given: %v, %v", name, whole, pins)
		}
		clear(whole)
		clear(pins)
		if !sameList(got, want) {
			t.Errorf("%s: %v after its arguments were changed, ahead %v", name, got, want)
		}
		whole, pins = of(2, 3, 5, 7, 8, 9), times(3, 4)
		got = call(whole[:4], pins)
		clear(got[:cap(got)])
		if !sameList(whole, of(2, 3, 5, 7, 8, 9)) || !slices.Equal(pins, times(3, 4)) {
			t.Errorf("%s: its arguments after its answer was changed: %v, %v", name, whole, pins)
		}
	}
}

// put is the list that Put returns.
func put(l []api.Version, v api.Version) []api.Version {
	l, _ = Put(l, v)
	return l
}

// Two chains that grow out of one must not meet in the memory behind it.
func TestChainsThatGrowOutOfOne(t *testing.T) {
	l := of(1)
	for n := 2; n < 70; n++ {
		one, two := put(l, of(100)[0]), put(l, of(200)[0])
		three := append(one, of(300)...)
		if want := append(slices.Clone(l), of(100, 300)...); !sameList(three, want) || !sameList(one, want[:n]) {
			t.Fatalf("of %v grew %v and %v", l, one, three)
		}
		if want := append(slices.Clone(l), of(200)...); !sameList(two, want) {
			t.Fatalf("of %v grew %v, want %v", l, two, want)
		}
		l = put(l, of(n)[0])
	}
}

// R5: no chain and no list of pins is too long, and the time that they take goes with their lengths.
func TestLargeInputs(t *testing.T) {
	const count = 1 << 18
	var stamps, pins []api.Stamp
	for i := range count {
		stamps = append(stamps, at(2*i+2, i%api.MaxSites))
		pins = append(pins, at(4*i+2, 2*i%api.MaxSites))
	}
	l := writes(stamps...)
	if !Check(l) || Check(append(l[1:], l[0])) {
		t.Errorf("Check of %d versions goes wrong", count)
	}
	for _, c := range []struct{ n, index int }{{1, 0}, {count + 1, count / 2}, {2*count + 1, count}} {
		got, ok := Put(l, write("a", at(c.n, 0)))
		if !ok || len(got) != count+1 || got[c.index].Stamp != at(c.n, 0) || !Check(got) {
			t.Errorf("Put of %d into %d versions goes wrong", c.n, count)
		}
	}
	for _, i := range []int{0, 1, count / 2, count - 1} {
		v, ok := At(l, stamps[i])
		gives(t, "At", l[i:i+1], 0, v, ok)
		v, ok = Below(l, at(2*i+3, 0))
		gives(t, "Below", l[i:i+1], 0, v, ok)
	}
	slices.Reverse(pins)
	got := Clean(l, at(2*count+9, 0), pins)
	if len(got) != count/2+1 || got[1].Stamp != stamps[2] || got[count/2].Stamp != stamps[count-1] {
		t.Errorf("Clean of %d versions, each second one pinned: %d", count, len(got))
	}
	if got = Clean(l, at(count+1, 0), nil); len(got) != count/2+1 || got[0].Stamp != stamps[count/2-1] {
		t.Errorf("Clean of %d versions at their middle: %d", count, len(got))
	}
	if Keeps(l, stamps[count-1], pins, l[1]) || !Keeps(l, stamps[count-1], pins, l[2]) {
		t.Errorf("Keeps with %d pins goes wrong", count)
	}
}

// Lists that are no chains may be large as well, and so may all that is in them.
func TestLargeInputsThatAreNotValid(t *testing.T) {
	const count = 1 << 17
	long := strings.Repeat("a", count)
	huge := api.Version{Key: long, Value: long, Gone: true, Stamp: at(3, 1), Past: make([]api.Dep, count)}
	for _, l := range [][]api.Version{{huge}, append(of(1), huge), slices.Repeat(of(3), count), make([]api.Version, count), of(2, 1)} {
		if Check(l) {
			t.Errorf("Check of %d versions, which are no chain: true, want false", len(l))
		}
		Head(l)
		for _, s := range []api.Stamp{{}, at(3, 1), at(9, 1)} {
			At(l, s)
			Below(l, s)
			Clean(l, s, slices.Repeat(times(3), count))
			Keeps(l, s, times(1, 9), huge)
		}
		if got, ok := Put(l, huge); ok || len(got) != len(l) {
			t.Errorf("Put of a huge version: %d, %t, want %d, false", len(got), ok, len(l))
		}
	}
}

// fuzzed is a version out of a byte: its timestamp, and now and then another key.
func fuzzed(b byte) api.Version {
	key := "a"
	if b >= 240 {
		key = "b"
	}
	return write(key, at(int(b/6%16), int(b%7)))
}

func FuzzChain(f *testing.F) {
	f.Add("\x1a\x08\x2c\x14", "\x08", byte(0x20))
	f.Add("\xf0\x1a\xf4\x06", "\x00\xff", byte(0x00))
	f.Add("\x0d\x0c\x0e\x13\x0c", "\x0d\x0d", byte(0xff))
	f.Fuzz(func(t *testing.T, s, held string, x byte) {
		var l, any []api.Version
		var pins []api.Stamp
		for _, b := range []byte(held) {
			pins = append(pins, fuzzed(b).Stamp)
		}
		for _, b := range []byte(s) {
			any = append(any, fuzzed(b))
			l = puts(t, l, fuzzed(b))
		}
		asks(t, l, append(around(), fuzzed(x).Stamp))
		cleans(t, l, fuzzed(x).Stamp, pins, around())
		for _, b := range []byte(s + held) {
			if got, want := Keeps(l, fuzzed(x).Stamp, pins, fuzzed(b)), keepsAgain(l, fuzzed(x).Stamp, pins, fuzzed(b)); got != want {
				t.Errorf("Keeps(%v, %v, %v, %v): %t, want %t", l, fuzzed(x).Stamp, pins, fuzzed(b), got, want)
			}
		}
		if got, want := Check(any), checkAgain(any); got != want {
			t.Errorf("Check(%v): %t, want %t", any, got, want)
		}
		Clean(any, fuzzed(x).Stamp, pins)
		Put(any, fuzzed(x))
		Below(any, fuzzed(x).Stamp)
	})
}

// The words of the chapter's example, and of the document's.
func TestExamples(t *testing.T) {
	if got := Clean(of(1, 3, 4, 7), at(5, 1), times(1)); !sameList(got, of(1, 4, 7)) {
		t.Errorf("Clean where 1 is pinned: %v, want 1, 4, 7", got)
	}
	if got := Clean(of(1, 3, 4, 7), at(5, 1), nil); !sameList(got, of(4, 7)) {
		t.Errorf("Clean: %v, want 4, 7", got)
	}
}
