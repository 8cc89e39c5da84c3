package client

import (
	"fmt"
	"maps"
	"math"
	"math/rand/v2"
	"slices"
	"strings"
	"testing"
	"unicode/utf8"

	"archipelago/api"
	"archipelago/past"
)

// at is a timestamp.
func at(n, site int) api.Stamp { return api.Stamp{N: n, Site: site} }

// on is the dependency on what site 1 wrote to a key.
func on(key string, n int) api.Dep { return api.Dep{Key: key, Stamp: at(n, 1)} }

// write is what site 1 wrote to a key.
func write(key string, n int, p ...api.Dep) api.Version {
	return api.Version{Key: key, Value: fmt.Sprint(key, " is ", n), Stamp: at(n, 1), Past: p}
}

// session is one at a site that has observed what is listed, as it is listed.
func session(site int, p ...api.Dep) api.Session { return api.Session{Site: site, Past: p} }

// bounded is the range from a key up to another one.
func bounded(from, to string) api.Range { return api.Range{From: from, To: to} }

// everything is the range that contains all keys, on its own.
func everything() []api.Range { return []api.Range{{}} }

// longPast is a past of so many keys, valid but for its length.
func longPast(count int) []api.Dep {
	var p []api.Dep
	for i := range count {
		p = append(p, api.Dep{Key: fmt.Sprintf("k%06d", i), Stamp: at(i+1, i%api.MaxSites)})
	}
	return p
}

// wrongKeys and wrongStamps are such that are not valid, each for one reason.

func wrongKeys() []string {
	return []string{"", " ", "a b", "aaaaaaaaa", "a\xff", "\xff", "\x00", "a\x1f"}
}

func wrongStamps() []api.Stamp {
	return []api.Stamp{
		{}, at(0, 1), at(-5, 1), at(1<<40+1, 1), at(math.MaxInt, 0), at(math.MinInt, 0),
		at(3, 6), at(3, -1), at(3, math.MaxInt), at(3, math.MinInt),
	}
}

// wrongDeps are dependencies that are not valid, each for its key or for its timestamp alone.
func wrongDeps() []api.Dep {
	var l []api.Dep
	for _, key := range wrongKeys() {
		l = append(l, on(key, 9))
	}
	for _, s := range wrongStamps() {
		l = append(l, api.Dep{Key: "b", Stamp: s})
	}
	return l
}

// probes are keys on both sides of the bounds that the tests use, at them and between them, and some that are not valid.
func probes() []string {
	return append([]string{"!", "B", "a", "a!", "aa", "b", "b!", "bz", "c", "cc", "d", "d!", "m", "z", "\u00e9", "\U0010ffff"}, wrongKeys()...)
}

// someRanges are ranges of all kinds: open on a side, on both, bounded, and such that are not valid.
func someRanges() []api.Range {
	return []api.Range{
		bounded("", ""), bounded("", "b"), bounded("b", "d"), bounded("c", ""), bounded("cc", "m"),
		bounded("d", "b"), bounded("b", "b"), bounded("a b", "\xff"),
	}
}

// anyDeps are a few dependencies, valid or not, of which lists are made: the same key may be there often, and in any order.
func anyDeps() []api.Dep {
	return []api.Dep{
		on("a", 2), on("a", 3), {Key: "a", Stamp: at(3, 2)}, on("b", 3), on("c", 1), {Key: "c", Stamp: at(0, 1)}, {Key: "", Stamp: at(3, -1)},
	}
}

// What the chapter says, by other means than the program's.

func greater(a, b api.Stamp) bool { return a.N > b.N || a.N == b.N && a.Site > b.Site }

func within(l []api.Range, key string) bool {
	for _, r := range l {
		if strings.Compare(r.From, key) <= 0 && (len(r.To) == 0 || strings.Compare(key, r.To) < 0) {
			return true
		}
	}
	return false
}

func validAgain(d api.Dep) bool {
	n := utf8.RuneCountInString(d.Key)
	low := func(r rune) bool { return r < 0x21 }
	key := utf8.ValidString(d.Key) && n >= 1 && n <= 8 && !strings.ContainsFunc(d.Key, low)
	return key && 1 <= d.Stamp.N && d.Stamp.N <= 1<<40 && 0 <= d.Stamp.Site && d.Stamp.Site <= 5
}

// greatest is the greatest timestamp of each key in what is listed, without what is not valid, in the order of the keys.
func greatest(l []api.Dep) []api.Dep {
	most := map[string]api.Stamp{}
	for _, d := range l {
		if validAgain(d) && greater(d.Stamp, most[d.Key]) {
			most[d.Key] = d.Stamp
		}
	}
	var p []api.Dep
	for _, key := range slices.Sorted(maps.Keys(most)) {
		p = append(p, api.Dep{Key: key, Stamp: most[key]})
	}
	return p
}

func sawAgain(s api.Session, l []api.Version) api.Session {
	if len(l) == 0 {
		return s
	}
	all := slices.Clone(s.Past)
	for _, v := range l {
		all = append(append(all, v.Past...), api.Dep{Key: v.Key, Stamp: v.Stamp})
	}
	return session(s.Site, greatest(all)...)
}

func fitsAgain(s api.Session, v api.Version) bool {
	return !greater(past.Get(s.Past, v.Key), v.Stamp)
}

func mayAgain(s api.Session, have []api.Dep, own []api.Range) bool {
	for _, d := range s.Past {
		if within(own, d.Key) && greater(d.Stamp, past.Get(have, d.Key)) {
			return false
		}
	}
	return true
}

func sameSession(a, b api.Session) bool { return a.Site == b.Site && slices.Equal(a.Past, b.Past) }

// saw holds Saw against the past that it is to answer, and gives the session.
func saw(t *testing.T, why string, s api.Session, l []api.Version, want ...api.Dep) api.Session {
	t.Helper()
	got := Saw(s, l...)
	if !sameSession(got, session(s.Site, want...)) {
		t.Fatalf("%s: Saw of %v, onto %v: %v, want the past %v", why, l, s, got, want)
	}
	return got
}

// fits holds Fits against what it is to answer.
func fits(t *testing.T, why string, s api.Session, v api.Version, want bool) {
	t.Helper()
	if got := Fits(s, v); got != want {
		t.Fatalf("%s: Fits of %v in %v: %t", why, v, s, got)
	}
}

// may holds May against what it is to answer, and Enter with it: of a session that is attached, of one that is not, and at a site that there is not.
func may(t *testing.T, why string, p, have []api.Dep, own []api.Range, want bool) {
	t.Helper()
	for _, site := range []int{-1, 0, 5} {
		if got := May(session(site, p...), have, own); got != want {
			t.Fatalf("%s: May of %v at %d with %v in %v: %t", why, p, site, have, own, got)
		}
	}
	err := api.ErrWait
	if want {
		err = api.OK
	}
	enters(t, why, session(-1, p...), 2, have, own, err)
	enters(t, why, session(2, p...), 2, have, own, api.ErrState)
	enters(t, why, session(-1, p...), 6, have, own, api.ErrArg)
}

// enters holds Enter against the error that it is to answer, and what is returned with it.
func enters(t *testing.T, why string, s api.Session, site int, have []api.Dep, own []api.Range, want api.Errno) {
	t.Helper()
	var then api.Session
	if want == api.OK {
		then = session(site, s.Past...)
	}
	if got, err := Enter(s, site, have, own); err != want || !sameSession(got, then) {
		t.Fatalf("%s: Enter of %v at %d with %v in %v: %v, %d, want %v, %d", why, s, site, have, own, got, err, then, want)
	}
}

// orders is all orders of the elements of l.
func orders[T any](l []T) [][]T {
	if len(l) == 0 {
		return [][]T{nil}
	}
	var all [][]T
	for i, x := range l {
		for _, rest := range orders(slices.Concat(l[:i], l[i+1:])) {
			all = append(all, append(rest, x))
		}
	}
	return all
}

// lists is all lists of at most so many out of l, in any order and any number of times.
func lists[T any](l []T, most int) [][]T {
	all := [][]T{nil}
	for from := 0; most > 0; most-- {
		grown := len(all)
		for _, s := range all[from:grown] {
			for _, x := range l {
				all = append(all, append(slices.Clone(s), x))
			}
		}
		from = grown
	}
	return all
}

// The chapter's example.

func TestExample(t *testing.T) {
	s := Leave(Saw(New(0), write("a", 3)))
	if !sameSession(s, session(-1, on("a", 3))) {
		t.Fatalf("a 3 was observed by %v", s)
	}
	owner := []api.Range{bounded("a", "b")}
	enters(t, "a site that has a 3", s, 1, []api.Dep{on("a", 3)}, owner, api.OK)
	enters(t, "a site that does not own a", s, 1, nil, []api.Range{{From: "b"}}, api.OK)
	enters(t, "a site that has a 2", s, 1, []api.Dep{on("a", 2)}, owner, api.ErrWait)
}

// P15.1: New

func TestNew(t *testing.T) {
	for _, site := range []int{0, 1, 2, 3, 4, 5, 6, 7, 1000, -1, -2, -7, 1 << 40, math.MaxInt, math.MinInt} {
		if s := New(site); s.Site != site || len(s.Past) > 0 {
			t.Errorf("New of %d: %v", site, s)
		}
	}
}

// P15.1: Saw

func TestSaw(t *testing.T) {
	some := []api.Dep{on("b", 3), on("d", 5)}
	mixed := []api.Dep{on("d", 5), on("a b", 9), on("b", 2), on("b", 3), {Key: "c", Stamp: at(7, 6)}}
	for _, c := range []struct {
		why  string
		p    []api.Dep
		l    []api.Version
		want []api.Dep
	}{
		{"no versions, nothing observed", nil, nil, nil},
		{"no versions, in a list", []api.Dep{}, []api.Version{}, nil},
		{"no versions", some, nil, some},
		{"no versions, onto a past that is not valid", mixed, nil, mixed},
		{"one without a past", nil, []api.Version{write("a", 1)}, []api.Dep{on("a", 1)}},
		{"one with an empty past", nil, []api.Version{{Key: "a", Stamp: at(1, 1), Past: []api.Dep{}}}, []api.Dep{on("a", 1)}},
		{"one without a past, ahead of all", some, []api.Version{write("a", 1)}, []api.Dep{on("a", 1), on("b", 3), on("d", 5)}},
		{"one without a past, between", some, []api.Version{write("c", 1)}, []api.Dep{on("b", 3), on("c", 1), on("d", 5)}},
		{"one without a past, behind all", some, []api.Version{write("e", 1)}, []api.Dep{on("b", 3), on("d", 5), on("e", 1)}},
		{"a later one", some, []api.Version{write("b", 4)}, []api.Dep{on("b", 4), on("d", 5)}},
		{"the same one", some, []api.Version{write("b", 3)}, some},
		{"an earlier one", some, []api.Version{write("b", 2)}, some},
		{"one of a later site", some, []api.Version{{Key: "b", Stamp: at(3, 2)}}, []api.Dep{{Key: "b", Stamp: at(3, 2)}, on("d", 5)}},
		{"one of an earlier site", some, []api.Version{{Key: "b", Stamp: at(3, 0)}}, some},
		{"one with a past", nil, []api.Version{write("b", 3, on("a", 2))}, []api.Dep{on("a", 2), on("b", 3)}},
		{"one with a longer past", some, []api.Version{write("c", 6, on("a", 2), on("b", 4), on("d", 4), on("e", 1))}, []api.Dep{on("a", 2), on("b", 4), on("c", 6), on("d", 5), on("e", 1)}},
		{"one that hangs on an earlier write to its key", some, []api.Version{write("b", 7, on("b", 6))}, []api.Dep{on("b", 7), on("d", 5)}},
		{"one that hangs on a later write to its key", some, []api.Version{write("b", 7, on("b", 8))}, []api.Dep{on("b", 8), on("d", 5)}},
		{"several", some, []api.Version{write("z", 1), write("a", 9, on("b", 8)), write("d", 6)}, []api.Dep{on("a", 9), on("b", 8), on("d", 6), on("z", 1)}},
		{"several, all earlier", some, []api.Version{write("b", 1), write("d", 4), write("b", 2, on("d", 5))}, some},
		{"one twice", some, []api.Version{write("c", 4, on("a", 1)), write("c", 4, on("a", 1))}, []api.Dep{on("a", 1), on("b", 3), on("c", 4), on("d", 5)}},
		{"one that is there, onto a past that is not valid", mixed, []api.Version{write("d", 5)}, []api.Dep{on("b", 3), on("d", 5)}},
		{"one that is new, onto a past that is not valid", mixed, []api.Version{write("c", 1)}, []api.Dep{on("b", 3), on("c", 1), on("d", 5)}},
		{"one that is not valid, onto a past that is not valid", mixed, []api.Version{{}}, []api.Dep{on("b", 3), on("d", 5)}},
		{"one onto a past of nothing valid", wrongDeps(), []api.Version{write("a", 1)}, []api.Dep{on("a", 1)}},
		{"one at the edges", nil, []api.Version{{Key: "\U0010ffff", Stamp: at(1<<40, 5)}, {Key: "!", Stamp: at(1, 0)}}, []api.Dep{{Key: "!", Stamp: at(1, 0)}, {Key: "\U0010ffff", Stamp: at(1<<40, 5)}}},
	} {
		for _, site := range []int{0, 5, 6, -1, -9, math.MaxInt, math.MinInt} {
			saw(t, c.why, session(site, c.p...), c.l, c.want...)
		}
	}
}

// Of a version that is not valid, what is valid counts.
func TestSawOfWrongVersions(t *testing.T) {
	some := []api.Dep{on("b", 3), on("d", 5)}
	grown := []api.Dep{on("b", 3), on("c", 8), on("d", 5)}
	for _, d := range wrongDeps() {
		v := api.Version{Key: d.Key, Stamp: d.Stamp}
		saw(t, "a wrong version", session(0), []api.Version{v})
		saw(t, "a wrong version", session(0, some...), []api.Version{v}, some...)
		saw(t, "a wrong version", session(0, some...), []api.Version{v, write("c", 8), v}, grown...)
		v.Past = []api.Dep{on("c", 8), on("d", 4)}
		saw(t, "a wrong version with a past", session(0, some...), []api.Version{v}, grown...)
		for _, p := range [][]api.Dep{{d}, {d, on("b", 2)}, {on("b", 2), d}, {d, d}, append(wrongDeps(), d)} {
			saw(t, "a wrong past", session(0, some...), []api.Version{write("c", 8, p...)}, grown...)
			saw(t, "a wrong past", session(0), []api.Version{write("c", 8, p...)}, greatest(append(p, on("c", 8)))...)
		}
	}
	// A Past that is out of order, has a key twice or is too long is not valid, but each of its parts is.
	saw(t, "a past out of order", session(0, some...), []api.Version{write("c", 8, on("d", 6), on("b", 4))}, on("b", 4), on("c", 8), on("d", 6))
	for _, p := range orders([]api.Dep{on("b", 4), on("b", 6), on("b", 5)}) {
		saw(t, "a past with a key often", session(0, some...), []api.Version{write("c", 8, p...)}, on("b", 6), on("c", 8), on("d", 5))
	}
	saw(t, "a past that is too long", session(0), []api.Version{write("a", 8, longPast(25)...)}, append([]api.Dep{on("a", 8)}, longPast(25)...)...)
}

// What is written is no matter of what was observed: not the value, however long, nor that it is gone, nor both.
func TestSawWhateverTheValue(t *testing.T) {
	for _, value := range []string{"", "x", "\xff", strings.Repeat("v", 33)} {
		for _, gone := range []bool{false, true} {
			v := api.Version{Key: "b", Value: value, Gone: gone, Stamp: at(3, 1), Past: []api.Dep{on("a", 2)}}
			s := saw(t, "a value", New(0), []api.Version{v}, on("a", 2), on("b", 3))
			fits(t, "a value", s, v, true)
			v.Stamp.N = 2
			fits(t, "a value", s, v, false)
		}
	}
}

// Several of one key, and of others, in each order, at once and one by one.
func TestSawInEachOrder(t *testing.T) {
	l := []api.Version{write("b", 3, on("a", 2)), write("b", 5), write("b", 4, on("a", 7), on("c", 1)), {Key: "b", Stamp: at(5, 0), Past: []api.Dep{on("c", 9)}}, write("a", 6)}
	for _, order := range orders(l) {
		s := session(3, on("a", 1), on("b", 2))
		saw(t, "each order", s, order, on("a", 7), on("b", 5), on("c", 9))
		for i, v := range order {
			s = saw(t, "one by one", s, []api.Version{v}, sawAgain(s, order[i:i+1]).Past...)
			saw(t, "once more", s, order[:i+1], s.Past...)
		}
		saw(t, "one by one, and then all", s, l, on("a", 7), on("b", 5), on("c", 9))
		if !sameSession(s, Saw(session(3, on("a", 1), on("b", 2)), l...)) {
			t.Fatalf("one by one %v were observed as %v", order, s)
		}
	}
}

// Every list of up to three versions, valid or not, onto pasts of all kinds.
func TestSawOfAnyVersions(t *testing.T) {
	few := []api.Version{
		write("a", 3), write("a", 2, on("b", 4)), write("b", 3, on("a", 1), on("c", 9)), {Key: "c", Stamp: at(3, 6), Past: []api.Dep{on("b", 9)}},
		{Key: "a b", Stamp: at(9, 1), Past: []api.Dep{on("c", 1), on("a", 4)}}, write("b", 5, anyDeps()...), {},
	}
	for _, p := range lists(anyDeps(), 3) {
		s := session(1, p...)
		for _, l := range lists(few, 3) {
			saw(t, "any versions", s, l, sawAgain(s, l).Past...)
		}
	}
}

// More keys than a past of a version may have are observed.
func TestSawWithoutLimit(t *testing.T) {
	p := longPast(60)
	s := New(0)
	for i, d := range p {
		s = saw(t, "one more", s, []api.Version{{Key: d.Key, Stamp: d.Stamp}}, p[:i+1]...)
	}
	s = saw(t, "as many as a version hangs on", New(0), []api.Version{write("k1", 9, p[:24]...)}, append(p[:24:24], on("k1", 9))...)
	saw(t, "as many again", s, []api.Version{write("k2", 9, p[24:48]...)}, append(slices.Clone(p[:48]), on("k1", 9), on("k2", 9))...)
}

// P15.1: Fits

func TestFits(t *testing.T) {
	s := session(0, on("b", 3), api.Dep{Key: "d", Stamp: at(5, 0)}, api.Dep{Key: "f", Stamp: at(1<<40, 5)})
	for _, c := range []struct {
		key  string
		at   api.Stamp
		want bool
	}{
		{"b", at(2, 1), false}, {"b", at(3, 1), true}, {"b", at(4, 1), true},
		{"b", at(3, 0), false}, {"b", at(3, 2), true}, {"b", at(2, 5), false}, {"b", at(4, 0), true}, {"b", at(1, 1), false}, {"b", at(1<<40, 5), true},
		{"d", at(4, 5), false}, {"d", at(5, 0), true}, {"d", at(5, 5), true}, {"d", at(6, 0), true},
		{"f", at(1<<40, 4), false}, {"f", at(1<<40, 5), true}, {"f", at(1, 0), false},
		// What was not observed has no timestamp, so that every valid one fits.
		{"a", at(1, 0), true}, {"c", at(1, 1), true}, {"e", at(9, 1), true}, {"g", at(1<<40, 5), true}, {"bb", at(1, 0), true}, {"", at(1, 0), true}, {"B", at(1, 0), true},
		// What is not valid is held in the same order.
		{"a", api.Stamp{}, true}, {"a", at(0, 1), true}, {"a", at(0, -1), false}, {"a", at(-1, 5), false}, {"a", at(math.MinInt, 0), false}, {"a", at(math.MaxInt, 0), true},
		{"b", api.Stamp{}, false}, {"b", at(3, -1), false}, {"b", at(3, 9), true}, {"b", at(math.MinInt, math.MaxInt), false}, {"b", at(math.MaxInt, math.MinInt), true},
		{"a b", at(1, 0), true}, {"\xff", at(-1, 0), false},
	} {
		for _, p := range [][]api.Dep{nil, {}, {on("b", 9), on("z", 9)}, anyDeps()} {
			for _, site := range []int{0, -1, 5} {
				s.Site = site
				fits(t, "a version", s, api.Version{Key: c.key, Stamp: c.at, Past: p}, c.want)
			}
		}
	}
	for _, key := range probes() {
		fits(t, "nothing observed", New(0), write(key, 1), true)
		fits(t, "nothing observed", New(0), api.Version{Key: key}, true)
	}
}

func TestFitsInAnyPast(t *testing.T) {
	stamps := append(wrongStamps(), at(1, 1), at(2, 1), at(3, 0), at(3, 1), at(3, 2), at(4, 0))
	for _, p := range lists(anyDeps(), 3) {
		s := session(1, p...)
		for _, key := range []string{"", "a", "b", "c", "d"} {
			for _, x := range stamps {
				v := api.Version{Key: key, Stamp: x}
				fits(t, "any past", s, v, fitsAgain(s, v))
			}
		}
	}
}

// What was observed fits, and what is older does not.
func TestFitsAfterSaw(t *testing.T) {
	l := []api.Version{write("b", 3, on("a", 2)), write("c", 7, on("b", 5)), write("a", 1)}
	for _, order := range orders(l) {
		s := Saw(New(0), order...)
		for key, n := range map[string]int{"a": 2, "b": 5, "c": 7} {
			fits(t, "an older one", s, write(key, n-1), false)
			fits(t, "the one observed", s, write(key, n), true)
			fits(t, "a later one", s, write(key, n+1), true)
		}
	}
}

// P15.2: May

func TestMay(t *testing.T) {
	own := []api.Range{bounded("", "m"), bounded("x", "")}
	four := []api.Dep{on("a", 1), on("b", 2), on("n", 3), on("y", 4)}
	for _, c := range []struct {
		why     string
		p, have []api.Dep
		own     []api.Range
		want    bool
	}{
		{"nothing observed", nil, nil, own, true},
		{"nothing observed, in lists", []api.Dep{}, []api.Dep{}, []api.Range{}, true},
		{"nothing observed, and much there", nil, longPast(24), everything(), true},
		{"one that is not there", []api.Dep{on("a", 1)}, nil, own, false},
		{"one that is not there, in an empty list", []api.Dep{on("a", 1)}, []api.Dep{}, own, false},
		{"one, and other keys are there", []api.Dep{on("a", 1)}, []api.Dep{on("!", 9), on("aa", 9), on("b", 9)}, own, false},
		{"one that is there", []api.Dep{on("a", 3)}, []api.Dep{on("a", 3)}, own, true},
		{"one that is passed", []api.Dep{on("a", 3)}, []api.Dep{on("a", 4)}, own, true},
		{"one that is not reached", []api.Dep{on("a", 3)}, []api.Dep{on("a", 2)}, own, false},
		{"one that another site passed", []api.Dep{on("a", 3)}, []api.Dep{{Key: "a", Stamp: at(3, 2)}}, own, true},
		{"one that another site did not reach", []api.Dep{on("a", 3)}, []api.Dep{{Key: "a", Stamp: at(3, 0)}}, own, false},
		{"one in no range, not there", []api.Dep{on("n", 3)}, nil, own, true},
		{"one in no range, not reached", []api.Dep{on("n", 3)}, []api.Dep{on("n", 2)}, own, true},
		{"one in the second range, there", []api.Dep{on("y", 3)}, []api.Dep{on("y", 3)}, own, true},
		{"one in the second range, not reached", []api.Dep{on("y", 3)}, []api.Dep{on("y", 2)}, own, false},
		{"all there", four, []api.Dep{on("a", 1), on("b", 2), on("n", 3), on("y", 4)}, own, true},
		{"all passed", four, []api.Dep{on("a", 2), on("b", 3), on("n", 4), on("y", 5)}, own, true},
		{"all there that is in the ranges", four, []api.Dep{on("a", 1), on("b", 2), on("y", 4)}, own, true},
		{"all but the first one", four, []api.Dep{on("b", 2), on("y", 4)}, own, false},
		{"all but one in the middle", four, []api.Dep{on("a", 1), on("y", 4)}, own, false},
		{"all but the last one", four, []api.Dep{on("a", 1), on("b", 2)}, own, false},
		{"the last one not reached", four, []api.Dep{on("a", 1), on("b", 2), on("y", 3)}, own, false},
		{"one of them there", four, []api.Dep{on("b", 2)}, own, false},
		{"none there", four, nil, own, false},
		{"none there, in all keys", four, nil, everything(), false},
		{"all there, in all keys", four, four, everything(), true},
		{"what is elsewhere not there, in all keys", four, []api.Dep{on("a", 1), on("b", 2), on("y", 4)}, everything(), false},
		{"no ranges", four, nil, []api.Range{}, true},
		{"no list of ranges", four, nil, nil, true},
		{"ranges without any of it", four, nil, []api.Range{bounded("c", "m"), bounded("z", "")}, true},
		{"a range of one of them alone, there", four, []api.Dep{on("b", 2)}, []api.Range{bounded("b", "c")}, true},
		{"a range of one of them alone, not there", four, []api.Dep{on("a", 9), on("n", 9), on("y", 9)}, []api.Range{bounded("b", "c")}, false},
		{"as much as a past has, there", longPast(24), longPast(24), own, true},
		{"as much as a past has, all but the last one there", longPast(24), longPast(23), own, false},
		{"more than a past of a version has, there", longPast(90), longPast(90), own, true},
		{"more than a past of a version has, all but the last one there", longPast(90), longPast(89), own, false},
	} {
		may(t, c.why, c.p, c.have, c.own, c.want)
	}
}

func TestMayByRanges(t *testing.T) {
	for _, c := range []struct {
		why     string
		l       []api.Range
		in, out []string
	}{
		{"all keys", everything(), []string{"!", "a", "zzzzzzzz", "\U0010ffff"}, nil},
		{"no beginning", []api.Range{bounded("", "m")}, []string{"!", "a", "lzzzzzzz", "l\U0010ffff"}, []string{"m", "m!", "z"}},
		{"no end", []api.Range{bounded("m", "")}, []string{"m", "m!", "z", "\U0010ffff"}, []string{"!", "a", "lzzzzzzz"}},
		{"bounded", []api.Range{bounded("b", "d")}, []string{"b", "b!", "bz", "c", "cc", "czzzzzzz"}, []string{"a", "azzzzzzz", "d", "d!", "B", "e"}},
		{"two that touch", []api.Range{bounded("b", "c"), bounded("c", "d")}, []string{"b", "bz", "c", "cc"}, []string{"a", "d"}},
		{"two that touch, in the wrong order", []api.Range{bounded("c", "d"), bounded("b", "c")}, []string{"b", "bz", "c", "cc"}, []string{"a", "d"}},
		{"two that overlap", []api.Range{bounded("a", "c"), bounded("b", "d")}, []string{"a", "aa", "b", "bz", "c", "cc"}, []string{"B", "d"}},
		{"two with a gap", []api.Range{bounded("a", "b"), bounded("c", "d")}, []string{"a", "aa", "c", "cc"}, []string{"b", "bz", "d"}},
		{"one within another", []api.Range{bounded("b", "c"), bounded("a", "m")}, []string{"a", "b", "c", "d", "l"}, []string{"B", "m", "z"}},
		{"one twice", []api.Range{bounded("b", "c"), bounded("b", "c")}, []string{"b", "bz"}, []string{"a", "c"}},
		{"one that ends ahead of its beginning", []api.Range{bounded("d", "b")}, nil, []string{"a", "b", "c", "d", "z"}},
		{"one that ends at its beginning", []api.Range{bounded("b", "b")}, nil, []string{"a", "b", "b!", "c"}},
		{"one with wrong bounds", []api.Range{bounded("a b", "c\xff")}, []string{"a!", "aa", "b", "c", "cc"}, []string{"a", "d"}},
		{"one that is not valid among others", []api.Range{bounded("d", "b"), bounded("m", ""), bounded("a", "a")}, []string{"m", "z"}, []string{"a", "b", "c", "d"}},
	} {
		for _, key := range c.in {
			may(t, c.why, []api.Dep{on(key, 3)}, nil, c.l, false)
			may(t, c.why, []api.Dep{on(key, 3)}, []api.Dep{on(key, 2)}, c.l, false)
			may(t, c.why, []api.Dep{on(key, 3)}, []api.Dep{on(key, 3)}, c.l, true)
		}
		for _, key := range c.out {
			may(t, c.why, []api.Dep{on(key, 3)}, nil, c.l, true)
			may(t, c.why, []api.Dep{on(key, 3)}, []api.Dep{on(key, 2)}, c.l, true)
		}
	}
}

func TestMayInAnyRanges(t *testing.T) {
	for _, own := range lists(someRanges(), 3) {
		for _, key := range probes() {
			p := []api.Dep{on(key, 3)}
			may(t, "any ranges", p, nil, own, !within(own, key))
			may(t, "any ranges", p, p, own, true)
		}
	}
}

// Pasts and heads of a few dependencies, valid or not.
func TestMayOfAnyPasts(t *testing.T) {
	for _, p := range lists(anyDeps(), 3) {
		for _, have := range lists(anyDeps(), 2) {
			for _, own := range lists(someRanges()[:4], 2) {
				want := mayAgain(session(-1, p...), have, own)
				may(t, "any pasts", p, have, own, want)
			}
		}
	}
}

// P15.2: Leave

func TestLeave(t *testing.T) {
	for _, p := range [][]api.Dep{nil, {}, {on("a", 3)}, longPast(24), longPast(60), wrongDeps(), anyDeps()} {
		for _, site := range []int{0, 1, 2, 3, 4, 5, 6, 1000, math.MaxInt, -1, -2, math.MinInt} {
			s := Leave(session(site, p...))
			if !sameSession(s, session(-1, p...)) {
				t.Errorf("Leave at %d with %v: %v", site, p, s)
			}
			if again := Leave(s); !sameSession(again, s) {
				t.Errorf("Leave once more: %v, want %v", again, s)
			}
		}
	}
}

// P15.2: Enter

// Each site, of a session at each site or at none, where it may be and where not: which error comes first.
func TestEnter(t *testing.T) {
	sites := []int{math.MinInt, -1 << 40, -7, -2, -1, 0, 1, 2, 3, 4, 5, 6, 7, 100, 1 << 40, math.MaxInt}
	for _, site := range sites {
		for _, from := range sites {
			for _, c := range []struct {
				p, have []api.Dep
				own     []api.Range
				may     bool
			}{
				{nil, nil, nil, true},
				{nil, nil, everything(), true},
				{[]api.Dep{on("a", 3), on("b", 5)}, []api.Dep{on("a", 3)}, []api.Range{{To: "b"}}, true},
				{[]api.Dep{on("a", 3), on("b", 5)}, []api.Dep{on("a", 3), on("b", 4)}, []api.Range{{To: "b"}, {From: "b"}}, false},
				{[]api.Dep{on("a", 3)}, []api.Dep{on("a", 2)}, everything(), false},
				{[]api.Dep{on("a", 3)}, nil, everything(), false},
				{wrongDeps(), nil, []api.Range{bounded("z", "a")}, true},
				{wrongDeps(), nil, everything(), false},
			} {
				want := api.OK
				switch {
				case site < 0 || site > 5:
					want = api.ErrArg
				case from >= 0:
					want = api.ErrState
				case !c.may:
					want = api.ErrWait
				}
				enters(t, "each site", session(from, c.p...), site, c.have, c.own, want)
			}
		}
	}
}

func TestErrorNumbers(t *testing.T) {
	s := session(-1, on("a", 3))
	_, arg := Enter(s, 6, nil, nil)
	_, state := Enter(session(0), 0, nil, nil)
	_, wait := Enter(s, 0, nil, everything())
	if arg != 1 || state != 13 || wait != 17 {
		t.Errorf("the errors are %d, %d and %d, want 1, 13 and 17", arg, state, wait)
	}
}

// From one site to the next and back: each time it has to leave, and to wait for what it has observed.
func TestEnterAndLeave(t *testing.T) {
	s := New(0)
	left := Leave(s)
	enters(t, "it has not left", s, 1, nil, everything(), api.ErrState)
	enters(t, "not even where it is", s, 0, nil, everything(), api.ErrState)
	enters(t, "nothing was observed", left, 1, nil, everything(), api.OK)
	s = Saw(s, write("a", 3), write("b", 4, on("a", 3)))
	left = Leave(s)
	enters(t, "a was observed", left, 1, []api.Dep{on("a", 2), on("b", 4)}, everything(), api.ErrWait)
	there, err := Enter(left, 1, []api.Dep{on("a", 3), on("b", 4)}, everything())
	if err != api.OK || !sameSession(there, session(1, on("a", 3), on("b", 4))) {
		t.Fatalf("Enter: %v, %d", there, err)
	}
	enters(t, "it is at another one", there, 2, []api.Dep{on("a", 3), on("b", 4)}, everything(), api.ErrState)
	back, err := Enter(Leave(there), 0, []api.Dep{on("a", 3)}, []api.Range{{To: "b"}})
	if err != api.OK || !sameSession(back, session(0, on("a", 3), on("b", 4))) {
		t.Fatalf("Enter: %v, %d", back, err)
	}
	// A session that observes while it is nowhere has to wait for that as well.
	away := Saw(Leave(back), write("c", 5))
	enters(t, "c was observed", away, 0, []api.Dep{on("a", 3), on("b", 4)}, everything(), api.ErrWait)
	enters(t, "c is there", away, 0, []api.Dep{on("a", 3), on("b", 4), on("c", 5)}, everything(), api.OK)
}

// P15.3

// place is a site of a small world: its ranges, and the head of each key that it has.
type place struct {
	own   []api.Range
	heads map[string]api.Version
}

func (p place) have() []api.Dep {
	var l []api.Dep
	for _, key := range slices.Sorted(maps.Keys(p.heads)) {
		l = append(l, api.Dep{Key: key, Stamp: p.heads[key].Stamp})
	}
	return l
}

// world is some sites, all that was written, and a client with a list of each single thing that it has observed.
type world struct {
	t      *testing.T
	r      *rand.Rand
	places []place
	all    []api.Version
	s      api.Session
	seen   []api.Dep
}

// observes lets the client observe some versions.
func (w *world) observes(l ...api.Version) {
	for _, v := range l {
		w.seen = append(append(w.seen, v.Past...), api.Dep{Key: v.Key, Stamp: v.Stamp})
	}
	w.becomes(Saw(w.s, l...), w.s.Site)
}

// becomes takes over what the client's session has become, and holds that its past has not shrunk and is what it observed.
func (w *world) becomes(s api.Session, site int) {
	w.t.Helper()
	for _, d := range w.s.Past {
		if greater(d.Stamp, past.Get(s.Past, d.Key)) {
			w.t.Fatalf("the past %v has shrunk to %v", w.s.Past, s.Past)
		}
	}
	if !sameSession(s, session(site, greatest(w.seen)...)) {
		w.t.Fatalf("%v was observed at %d as %v", w.seen, site, s)
	}
	w.s = s
}

// reads lets the client read a key at its site: what it may enter has nothing older than what it has observed.
func (w *world) reads(key string) {
	w.t.Helper()
	p := w.places[w.s.Site]
	if !within(p.own, key) {
		return
	}
	v := p.heads[key]
	v.Key = key
	if !Fits(w.s, v) {
		w.t.Fatalf("%v reads %v", w.s, v)
	}
	if v.Stamp.N > 0 {
		w.observes(v)
	}
}

// past is what a client has observed that has read a key at a site and nothing else.
func (w *world) past(site int, key string) []api.Dep {
	v := w.places[site].heads[key]
	return greatest(append(slices.Clone(v.Past), api.Dep{Key: key, Stamp: v.Stamp}))
}

// writes lets a client write a key at a site that owns it.
func (w *world) writes(site int, key string, p []api.Dep) (api.Version, bool) {
	if !within(w.places[site].own, key) {
		return api.Version{}, false
	}
	v := api.Version{Key: key, Stamp: at(len(w.all)+1, site), Past: slices.Clone(p)}
	w.all = append(w.all, v)
	w.places[site].heads[key] = v
	return v, true
}

// arrives lets a write come to a site that owns its key and has what it hangs on there.
func (w *world) arrives(v api.Version, p place) {
	missing := func(d api.Dep) bool { return within(p.own, d.Key) && greater(d.Stamp, p.heads[d.Key].Stamp) }
	if within(p.own, v.Key) && !slices.ContainsFunc(v.Past, missing) && greater(v.Stamp, p.heads[v.Key].Stamp) {
		p.heads[v.Key] = v
	}
}

// moves lets the client enter a site, if all that it has observed of the keys there is there.
func (w *world) moves(site int) {
	w.t.Helper()
	p := w.places[site]
	want := api.OK
	for _, d := range w.seen {
		if within(p.own, d.Key) && greater(d.Stamp, p.heads[d.Key].Stamp) {
			want = api.ErrWait
		}
	}
	if May(w.s, p.have(), p.own) != (want == api.OK) {
		w.t.Fatalf("May of %v, which has observed %v, with %v in %v: %t", w.s, w.seen, p.have(), p.own, want != api.OK)
	}
	s, err := Enter(w.s, site, p.have(), p.own)
	if err != want {
		w.t.Fatalf("Enter of %v, which has observed %v, with %v in %v: %d, want %d", w.s, w.seen, p.have(), p.own, err, want)
	}
	if err == api.OK {
		w.becomes(s, site)
	}
}

// step is one of what may happen, by chance.
func (w *world) step(keys []string) {
	w.t.Helper()
	key, site := keys[w.r.IntN(len(keys))], w.r.IntN(len(w.places))
	switch n := w.r.IntN(8); {
	case n < 3 && len(w.all) > 0:
		w.arrives(w.all[w.r.IntN(len(w.all))], w.places[site])
	case n == 3:
		w.writes(site, key, w.past(site, keys[w.r.IntN(len(keys))]))
	case w.s.Site < 0:
		w.moves(site)
	case n == 4:
		w.becomes(Leave(w.s), -1)
	case n == 5:
		if v, ok := w.writes(w.s.Site, key, w.s.Past); ok {
			w.observes(v)
		}
	default:
		w.reads(key)
	}
}

func TestWhatWasObservedIsPresent(t *testing.T) {
	r := rand.New(rand.NewPCG(15, 3))
	names := []string{"a", "b", "bz", "c", "d", "m", "z"}
	ranges := lists(someRanges(), 2)
	moved, waited := 0, 0
	for range 1500 {
		w := &world{t: t, r: r, s: New(0)}
		for range 2 + r.IntN(3) {
			w.places = append(w.places, place{ranges[r.IntN(len(ranges))], map[string]api.Version{}})
		}
		for range 120 {
			away := w.s.Site < 0
			w.step(names)
			if away && w.s.Site < 0 {
				waited++
			} else if away {
				moved++
			}
		}
	}
	if moved < 1000 || waited < 1000 {
		t.Errorf("the client moved %d times and waited %d times, too few to tell anything", moved, waited)
	}
}

// Whatever is called, with whatever it is given: what is valid in a past stays in it.
func TestThePastNeverShrinks(t *testing.T) {
	covered := func(s, then api.Session) {
		t.Helper()
		for _, d := range s.Past {
			if validAgain(d) && greater(d.Stamp, past.Get(then.Past, d.Key)) {
				t.Fatalf("%v has become %v", s, then)
			}
		}
	}
	few := []api.Version{write("a", 2), write("b", 9, on("a", 9)), {Key: "c", Stamp: at(0, 9)}, write("a", 1, anyDeps()...)}
	for _, p := range lists(anyDeps(), 3) {
		s := session(-1, greatest(p)...)
		for _, l := range lists(few, 2) {
			then := Saw(s, l...)
			covered(s, then)
			covered(then, Leave(then))
			there, err := Enter(then, 4, then.Past, everything())
			if err != api.OK {
				t.Fatalf("Enter of %v where all is: %d", then, err)
			}
			covered(then, there)
			for _, v := range l {
				covered(session(0, append(slices.Clone(v.Past), api.Dep{Key: v.Key, Stamp: v.Stamp})...), then)
			}
		}
		covered(session(0, p...), Saw(session(0, p...), few[2]))
	}
}

// R4: the same calls, the same results.
func TestSameCallsSameResults(t *testing.T) {
	l := []api.Version{write("b", 3, anyDeps()...), write("c", 9, longPast(30)...), {}, write("b", 4, wrongDeps()...)}
	run := func() string {
		s := Saw(session(-3, anyDeps()...), l...)
		there, err := Enter(s, 3, s.Past, everything())
		return fmt.Sprint(s, there, err, May(s, nil, everything()), Fits(s, l[0]), Leave(s), Saw(New(1), l[1:]...))
	}
	first := run()
	for range 50 {
		if again := run(); again != first {
			t.Fatalf("%s, and then %s", first, again)
		}
	}
}

// R3: what is handed in is neither changed nor kept, and what is handed out is the caller's.

// spoil overwrites all memory that a list has, behind its end too.
func spoil[T any](l []T) { clear(l[:cap(l)]) }

// roomy is p in a list that has room behind its end, which is its owner's too.
func roomy(p []api.Dep) []api.Dep {
	const room = 5
	l := append(make([]api.Dep, 0, len(p)+room), p...)
	behind := l[len(p) : len(p)+room]
	for i := range behind {
		behind[i] = on("room", i+1)
	}
	return l
}

// stays tells whether a list of roomy is as it was.
func stays(t *testing.T, why string, l, p []api.Dep) {
	t.Helper()
	again := roomy(p)
	if len(l) != len(p) || !slices.Equal(l[:cap(l)], again[:cap(again)]) {
		t.Errorf("%s changed %v to %v", why, p, l)
	}
}

// pastsToShare are pasts, in order and valid, and such that are not.
func pastsToShare() [][]api.Dep {
	return [][]api.Dep{{}, {on("a", 1)}, {on("b", 2), on("d", 4)}, longPast(24), longPast(40), {on("d", 4), on("b", 2), on("b", 9)}, wrongDeps()}
}

func TestSawSharesNothing(t *testing.T) {
	for _, p := range pastsToShare() {
		for _, q := range pastsToShare() {
			for count := range 4 {
				why := fmt.Sprint("Saw of ", count, " versions")
				s := session(2, roomy(p)...)
				l := make([]api.Version, count, count+3)
				for i := range l[:cap(l)] {
					l[:cap(l)][i] = api.Version{Key: "v", Stamp: at(i+1, 1), Past: roomy(q)}
				}
				unchanged := func(why string) {
					t.Helper()
					stays(t, why, s.Past, p)
					for i, v := range l[:cap(l)] {
						stays(t, why, v.Past, q)
						if v.Key != "v" || v.Stamp != at(i+1, 1) {
							t.Errorf("%s changed version %d to %v", why, i, v)
						}
					}
				}
				want := sawAgain(session(2, slices.Clone(p)...), slices.Clone(l)).Past
				got := saw(t, why, s, l, want...)
				unchanged(why)
				// What is done to the answer is not seen in what was given, nor in what is answered next.
				_ = append(got.Past, on("x", 1))
				spoil(got.Past)
				unchanged(why + ", its answer spoilt,")
				got = saw(t, why, s, l, want...)
				// What is done to what was given is not seen in the answer.
				spoil(s.Past)
				for _, v := range l {
					spoil(v.Past)
				}
				spoil(l)
				if !slices.Equal(got.Past, want) {
					t.Errorf("%s: the past has become %v, want %v", why, got.Past, want)
				}
			}
		}
	}
}

// onlySite holds that a call which is to change the site of a session alone shares nothing with what it was given.
func onlySite(t *testing.T, why string, call func(api.Session) api.Session) {
	t.Helper()
	for _, p := range pastsToShare() {
		s := session(-1, roomy(p)...)
		got := call(s)
		stays(t, why, s.Past, p)
		_ = append(got.Past, on("x", 1))
		spoil(got.Past)
		stays(t, why+", its answer spoilt,", s.Past, p)
		got = call(s)
		again := call(s)
		spoil(s.Past)
		spoil(again.Past)
		if s.Site != -1 || !slices.Equal(got.Past, p) {
			t.Errorf("%s: the past has become %v, want %v", why, got.Past, p)
		}
	}
}

func TestLeaveAndEnterShareNothing(t *testing.T) {
	onlySite(t, "Leave", Leave)
	onlySite(t, "Saw of nothing", func(s api.Session) api.Session { return Saw(s) })
	onlySite(t, "Enter", func(s api.Session) api.Session {
		// In no ranges, as else a past that is not valid may be refused.
		there, err := Enter(s, 3, s.Past, nil)
		if err != api.OK || there.Site != 3 {
			t.Errorf("Enter of %v in no ranges: %v, %d", s, there, err)
		}
		return there
	})
}

func TestMayAndFitsChangeNothing(t *testing.T) {
	for _, p := range pastsToShare() {
		for _, q := range pastsToShare() {
			s := session(-1, roomy(p)...)
			have, own := roomy(q), append(make([]api.Range, 0, 9), bounded("c", "d"), bounded("", "c"))
			v := write("b", 3, roomy(q)...)
			first := fmt.Sprint(May(s, have, own), Fits(s, v))
			for _, site := range []int{3, 6} {
				_, _ = Enter(s, site, have, own)
				_, _ = Enter(session(0, s.Past...), site, have, own)
			}
			if again := fmt.Sprint(May(s, have, own), Fits(s, v)); again != first {
				t.Errorf("May and Fits of %v with %v: %s, and then %s", s, have, first, again)
			}
			stays(t, "May", s.Past, p)
			stays(t, "May", have, q)
			stays(t, "Fits", v.Past, q)
			if !slices.Equal(own[:9], append([]api.Range{bounded("c", "d"), bounded("", "c")}, make([]api.Range, 7)...)) {
				t.Errorf("May changed the ranges to %v", own[:9])
			}
		}
	}
}

// What Enter answers shares nothing with the heads, even where they are the same as the past.
func TestEnterKeepsNoHeads(t *testing.T) {
	p := []api.Dep{on("a", 3), on("b", 4)}
	s, have, own := session(-1, slices.Clone(p)...), slices.Clone(p), everything()
	there, err := Enter(s, 3, have, own)
	spoil(have)
	spoil(own)
	if err != api.OK || !sameSession(there, session(3, p...)) {
		t.Fatalf("Enter, the heads being spoilt: %v, %d", there, err)
	}
	spoil(there.Past)
	if !sameSession(s, session(-1, p...)) {
		t.Errorf("the session that entered has become %v", s)
	}
}

// No state is held: what one session has observed is nothing to another one.
func TestSessionsAreApart(t *testing.T) {
	a := Saw(New(0), write("a", 3))
	b := New(0)
	if len(b.Past) > 0 || !Fits(b, write("a", 1)) || !May(b, nil, everything()) {
		t.Errorf("a new session has observed %v", b.Past)
	}
	one, two := Saw(a, write("b", 1)), Saw(a, write("c", 1))
	if !sameSession(a, session(0, on("a", 3))) || !sameSession(one, session(0, on("a", 3), on("b", 1))) || !sameSession(two, session(0, on("a", 3), on("c", 1))) {
		t.Errorf("of one session two have become: %v, %v, %v", a, one, two)
	}
}

// R5: there are no limits, and the time goes with the sizes.

func TestManyVersions(t *testing.T) {
	const count = 1 << 16
	p := longPast(count)
	var l []api.Version
	for i, d := range p {
		l = append(l, api.Version{Key: d.Key, Stamp: d.Stamp, Past: p[max(i-20, 0):i]})
	}
	s := Saw(New(0), l...)
	if !slices.Equal(s.Past, p) {
		t.Errorf("%d versions were observed as a past of %d", count, len(s.Past))
	}
	slices.Reverse(l)
	if again := Saw(Saw(New(0), l[:count/2]...), l[count/3:]...); !slices.Equal(again.Past, p) {
		t.Errorf("%d versions were observed as a past of %d", count, len(again.Past))
	}
	if s = Saw(New(0), slices.Repeat(l[:1], count)...); !slices.Equal(s.Past, p[count-21:]) {
		t.Errorf("one version, %d times, was observed as a past of %d", count, len(s.Past))
	}
}

func TestLargePastsAndHeads(t *testing.T) {
	const count = 1 << 17
	p := longPast(count)
	s := session(-1, p...)
	if got := Saw(s, write("v", 1, p...)); len(got.Past) != count+1 || !slices.Equal(got.Past[:count], p) {
		t.Errorf("Saw onto a past of %d: %d", count, len(got.Past))
	}
	enters := func(why string, have []api.Dep, own []api.Range, want api.Errno) {
		t.Helper()
		got, err := Enter(s, 5, have, own)
		if err != want || May(s, have, own) != (want == api.OK) || want == api.OK && !slices.Equal(got.Past, p) {
			t.Errorf("%s: Enter: %d, want %d", why, err, want)
		}
	}
	enters("all there", p, everything(), api.OK)
	enters("all but the first one there", p[1:], everything(), api.ErrWait)
	enters("all but the last one there", p[:count-1], everything(), api.ErrWait)
	enters("half there, and half of the ranges", p[:count/2], []api.Range{{To: p[count/2].Key}}, api.OK)
	enters("half there, and more of the ranges", p[:count/2], []api.Range{{To: p[count/2+1].Key}}, api.ErrWait)
	if left := Leave(session(3, p...)); !sameSession(left, s) {
		t.Errorf("Leave with a past of %d: %d", count, len(left.Past))
	}
	last := p[count-1]
	if !Fits(s, api.Version{Key: last.Key, Stamp: last.Stamp}) || Fits(s, api.Version{Key: last.Key, Stamp: at(last.Stamp.N-1, 5)}) {
		t.Errorf("Fits does not go by the last one of %d", count)
	}
}

func TestManyRanges(t *testing.T) {
	const count = 1 << 12
	p := longPast(count)
	var own []api.Range
	var have []api.Dep
	for i := 0; i < count; i += 2 {
		own = append(own, bounded(p[i].Key, p[i].Key+"!"))
		have = append(have, p[i])
	}
	s := session(-1, p...)
	if !May(s, have, own) || May(s, have[1:], own) || May(s, have, append(own, bounded(p[1].Key, p[2].Key))) {
		t.Errorf("May does not go by every one of %d ranges", len(own))
	}
}

// What is told where it goes wrong are lengths alone, as all else is long.
func TestLargeInputsThatAreNotValid(t *testing.T) {
	const count = 1 << 16
	long := strings.Repeat("a", count)
	d := api.Dep{Key: long, Stamp: at(math.MaxInt, math.MaxInt)}
	huge := api.Version{Key: long, Value: long, Gone: true, Stamp: d.Stamp, Past: []api.Dep{d, d, {Key: long[1:], Stamp: at(math.MinInt, 0)}, on("a", 1)}}
	s := session(math.MinInt, d, d)
	if got := Saw(s, huge, huge); got.Site != math.MinInt || !slices.Equal(got.Past, []api.Dep{on("a", 1)}) {
		t.Errorf("huge versions were observed as a past of %d", len(got.Past))
	}
	if !Fits(s, huge) || Fits(s, api.Version{Key: long}) {
		t.Errorf("Fits of a huge version does not go by its key")
	}
	if May(s, nil, []api.Range{bounded(long, "")}) || !May(s, []api.Dep{d}, everything()) || !May(s, nil, []api.Range{bounded("", long)}) {
		t.Errorf("May of a huge past does not go by its keys")
	}
	if got, err := Enter(s, math.MaxInt, slices.Repeat(huge.Past, 99), everything()); err != api.ErrArg || got.Site != 0 || len(got.Past) > 0 {
		t.Errorf("Enter of a huge past: %d, %d", len(got.Past), err)
	}
}

// FuzzClient reads pasts and versions from bytes, one each of a dependency; a version hangs on those between it and the version before.
func FuzzClient(f *testing.F) {
	f.Add("\x00\x0b\x12", "\x1a\x90\x10", "\x11\x20", byte(3), "a", 4, 1)
	f.Add("\x1a\x01\x02", "\x83\x00\x89\x00", "", byte(0), "\xff", -1, -1)
	f.Add("\x3f\x3f\x3f", "\xbf\x3f\x3f\xbf", "\x3f\x3e\x3f", byte(0x21), "a b", 1<<40, 6)
	names := []string{"a", "b", "bz", "c", "d", "z", "", "a b"}
	ranges := lists(someRanges(), 2)
	dep := func(b byte) api.Dep { return api.Dep{Key: names[b%8], Stamp: at(int(b/8%8), int(b/64%2))} }
	deps := func(s string) []api.Dep {
		var p []api.Dep
		for _, b := range []byte(s) {
			p = append(p, dep(b))
		}
		return p
	}
	f.Fuzz(func(t *testing.T, observed, versions, heads string, owned byte, key string, n, site int) {
		own := append(slices.Clone(ranges[int(owned)%len(ranges)]), bounded("m", key), bounded(key, "\U0010ffff"))
		l := []api.Version{{Key: key, Value: key, Gone: n < 9, Stamp: at(n, site)}}
		var p []api.Dep
		for _, b := range []byte(versions) {
			if p = append(p, dep(b)); b >= 128 {
				l, p = append(l, api.Version{Key: dep(b).Key, Stamp: dep(b).Stamp, Past: p}), nil
			}
		}
		have := append(deps(heads), api.Dep{Key: key, Stamp: at(n, 1)})
		for _, s := range []api.Session{session(site, deps(observed)...), session(-1, greatest(deps(observed))...)} {
			for i, v := range l {
				saw(t, "fuzzed versions", s, l[:i], sawAgain(s, l[:i]).Past...)
				fits(t, "a fuzzed version", s, v, fitsAgain(s, v))
			}
			for _, s := range []api.Session{s, Saw(s, l...)} {
				may(t, "a fuzzed past", s.Past, have, own, mayAgain(s, have, own))
				if left := Leave(s); !sameSession(left, session(-1, s.Past...)) {
					t.Fatalf("Leave of %v: %v", s, left)
				}
			}
		}
	})
}
