package nearest

import (
	"fmt"
	"maps"
	"math"
	"math/rand/v2"
	"slices"
	"strings"
	"testing"
	"unicode/utf8"

	"archipelago/api"
)

// at is a dependency on a write of any site.
func at(key string, n, site int) api.Dep {
	return api.Dep{Key: key, Stamp: api.Stamp{N: n, Site: site}}
}

// dep is a dependency on a write of site 1.
func dep(key string, n int) api.Dep { return at(key, n, 1) }

// deps is a past, written in short: "a 1, b 2" hangs on writes of site 1.
func deps(s string) []api.Dep {
	var p []api.Dep
	for part := range strings.SplitSeq(s, ",") {
		var d api.Dep
		if part = strings.TrimSpace(part); part == "" {
			continue
		}
		if _, err := fmt.Sscanf(part, "%s %d", &d.Key, &d.Stamp.N); err != nil {
			panic(err)
		}
		d.Stamp.Site = 1
		p = append(p, d)
	}
	return p
}

// write is the version that d names.
func write(d api.Dep, p ...api.Dep) api.Version {
	return api.Version{Key: d.Key, Stamp: d.Stamp, Past: p}
}

// writes is a list of versions, written in short: "a 1; b 2: a 1" is a 1, and b 2 which hangs on it.
func writes(s string) []api.Version {
	var l []api.Version
	for part := range strings.SplitSeq(s, ";") {
		name, p, _ := strings.Cut(part, ":")
		for _, d := range deps(name) {
			l = append(l, write(d, deps(p)...))
		}
	}
	return l
}

// marked is the list with values that tell the versions from one another.
func marked(l []api.Version) []api.Version {
	l = slices.Clone(l)
	for i := range l {
		l[i].Value = fmt.Sprint("value ", i)
	}
	return l
}

// What the chapter says, by other means than the program's.

func greater(a, b api.Stamp) bool { return a.N > b.N || a.N == b.N && a.Site > b.Site }

func stampAgain(s api.Stamp) bool { return 1 <= s.N && s.N <= 1<<40 && 0 <= s.Site && s.Site <= 5 }

func depAgain(d api.Dep) bool {
	n := utf8.RuneCountInString(d.Key)
	low := func(r rune) bool { return r < 0x21 }
	return utf8.ValidString(d.Key) && n >= 1 && n <= 8 && !strings.ContainsFunc(d.Key, low) && stampAgain(d.Stamp)
}

func validAgain(p []api.Dep) bool {
	for i, d := range p {
		if !depAgain(d) || i > 0 && p[i-1].Key >= d.Key {
			return false
		}
	}
	return len(p) <= 24
}

func coversAgain(p, q []api.Dep) bool {
	for _, d := range q {
		var have api.Stamp
		for _, e := range slices.Backward(p) {
			if e.Key == d.Key {
				have = e.Stamp
			}
		}
		if greater(d.Stamp, have) {
			return false
		}
	}
	return true
}

func findAgain(l []api.Version, d api.Dep) (int, bool) {
	for i := 0; i < len(l); i++ {
		if l[i].Key == d.Key && l[i].Stamp.N == d.Stamp.N && l[i].Stamp.Site == d.Stamp.Site {
			return i, true
		}
	}
	return -1, false
}

func closedAgain(p []api.Dep, l []api.Version) bool {
	for _, d := range p {
		if i, ok := findAgain(l, d); !ok || !coversAgain(p, l[i].Past) {
			return false
		}
	}
	return true
}

func soundAgain(l []api.Version) bool {
	for i, v := range l {
		if !validAgain(v.Past) || !stampAgain(v.Stamp) || !closedAgain(v.Past, l) {
			return false
		}
		for _, d := range v.Past {
			if !greater(v.Stamp, d.Stamp) {
				return false
			}
		}
		if first, _ := findAgain(l, api.Dep{Key: v.Key, Stamp: v.Stamp}); first != i {
			return false
		}
	}
	return true
}

func impliesAgain(l []api.Version, x, y api.Dep) bool {
	i, ok := findAgain(l, x)
	if !ok || x == y {
		return false
	}
	for _, d := range l[i].Past {
		if d.Key == y.Key && !greater(y.Stamp, d.Stamp) {
			return true
		}
	}
	return false
}

func reduceAgain(p []api.Dep, l []api.Version) []api.Dep {
	out := slices.Clone(p)
	return slices.DeleteFunc(out, func(y api.Dep) bool {
		return slices.ContainsFunc(p, func(x api.Dep) bool { return impliesAgain(l, x, y) })
	})
}

func expandAgain(p []api.Dep, l []api.Version) []api.Dep {
	all := slices.Clone(p)
	for _, d := range p {
		if i, ok := findAgain(l, d); ok {
			all = append(all, l[i].Past...)
		}
	}
	most := map[string]api.Stamp{}
	for _, d := range all {
		if depAgain(d) && greater(d.Stamp, most[d.Key]) {
			most[d.Key] = d.Stamp
		}
	}
	var out []api.Dep
	for _, key := range slices.Sorted(maps.Keys(most)) {
		out = append(out, api.Dep{Key: key, Stamp: most[key]})
	}
	return out
}

// sameVersion reports whether all fields of two versions are equal.
func sameVersion(a, b api.Version) bool {
	return a.Key == b.Key && a.Value == b.Value && a.Gone == b.Gone && a.Stamp == b.Stamp && slices.Equal(a.Past, b.Past)
}

// holds holds every answer on p and l against what the chapter says.
func holds(t *testing.T, p []api.Dep, l []api.Version) {
	t.Helper()
	closed, sound := closedAgain(p, l), soundAgain(l)
	if got := Closed(p, l); got != closed {
		t.Fatalf("Closed(%v, %v): %t, want %t", p, l, got, closed)
	}
	if got := Sound(l); got != sound {
		t.Fatalf("Sound(%v): %t, want %t", l, got, sound)
	}
	r := Reduce(p, l)
	if want := reduceAgain(p, l); !slices.Equal(r, want) {
		t.Fatalf("Reduce(%v, %v): %v, want %v", p, l, r, want)
	}
	if got, want := Expand(p, l), expandAgain(p, l); !slices.Equal(got, want) {
		t.Fatalf("Expand(%v, %v): %v, want %v", p, l, got, want)
	}
	if !sound || !closed || !validAgain(p) {
		return
	}
	if got := Expand(r, l); !slices.Equal(got, p) {
		t.Fatalf("Expand(Reduce(%v, %v)): %v", p, l, got)
	}
}

// subsets is all lists of at most so many out of l, each once, in order.
func subsets[T any](l []T, most int) [][]T {
	all := [][]T{nil}
	for _, x := range l {
		for _, s := range all {
			if len(s) < most {
				all = append(all, append(slices.Clone(s), x))
			}
		}
	}
	return all
}

// lists is all lists of at most so many out of l, in any order and any number of times.
func lists[T any](l []T, most int) [][]T {
	all := [][]T{nil}
	for from := 0; most > 0; most-- {
		grown := len(all)
		for _, s := range all[from:grown] {
			for _, x := range l {
				all = append(all, append(slices.Clone(s), x))
			}
		}
		from = grown
	}
	return all
}

// keyed is the key of number i, of which all have the same length.
func keyed(i int) string { return fmt.Sprintf("k%06d", i) }

// chain is a sequence of writes to so many keys, each of which observed all previous ones.
func chain(count int) ([]api.Version, []api.Dep) {
	var l []api.Version
	var p []api.Dep
	for i := range count {
		d := at(keyed(i), i+1, i%api.MaxSites)
		l = append(l, write(d, slices.Clone(p)...))
		p = append(p, d)
	}
	return l, p
}

// P5.1

func TestFind(t *testing.T) {
	l := marked(writes("a 1; b 2: a 1; a 3: a 1, b 2; a 1: c 1; b 2"))
	l[1].Gone = true
	for _, c := range []struct {
		why  string
		l    []api.Version
		d    api.Dep
		want int
	}{
		{"no version at all", nil, dep("a", 1), -1},
		{"an empty list", []api.Version{}, dep("a", 1), -1},
		{"the first one of two that are equal", l, dep("a", 1), 0},
		{"the first one of two, in the middle", l, dep("b", 2), 1},
		{"a key once more, later", l, dep("a", 3), 2},
		{"the last one", l[:3], dep("a", 3), 2},
		{"the second one of two, where the first is not in the list", l[3:], dep("b", 2), 4},
		{"the same key, a number between", l, dep("a", 2), -1},
		{"the same key, a less site", l, at("a", 1, 0), -1},
		{"the same key, a greater site", l, at("a", 1, 2), -1},
		{"the same timestamp, another key", l, dep("c", 1), -1},
		{"a key that goes on", l, dep("aa", 1), -1},
		{"an empty key", l, dep("", 1), -1},
		{"the zero dependency", l, api.Dep{}, -1},
		{"a wrong timestamp", l, at("a", -1, 9), -1},
	} {
		v, ok := Find(c.l, c.d)
		if c.want < 0 {
			if ok || !sameVersion(v, api.Version{}) || v.Past != nil {
				t.Errorf("Find, %s, %v: %v, %t, want none", c.why, c.d, v, ok)
			}
			continue
		}
		if !ok || !sameVersion(v, l[c.want]) {
			t.Errorf("Find, %s, %v: %v, %t, want %v", c.why, c.d, v, ok, l[c.want])
		}
	}
}

func TestFindOfWrongVersions(t *testing.T) {
	for _, d := range []api.Dep{
		{}, dep("", 1), dep("a b", 1), dep("b\xff", 1), dep("bbbbbbbbb", 1), at("a", 0, 0), at("a", 0, -1), dep("a", -1),
		dep("a", 1<<40+1), at("a", 3, 6), at("a", math.MinInt, math.MaxInt), at("a", math.MaxInt, math.MinInt),
	} {
		want := api.Version{Key: d.Key, Stamp: d.Stamp, Value: strings.Repeat("v", 40), Gone: true, Past: []api.Dep{{}, {}}}
		l := []api.Version{write(dep("a", 1)), want, write(d)}
		if v, ok := Find(l, d); !ok || !sameVersion(v, want) {
			t.Errorf("Find of %v: %v, %t", d, v, ok)
		}
		if v, ok := Find(l[:1], d); ok || !sameVersion(v, api.Version{}) {
			t.Errorf("Find of %v, which is not there: %v, %t", d, v, ok)
		}
	}
}

func TestClosed(t *testing.T) {
	for _, c := range []struct {
		why, l, p string
		want      bool
	}{
		{"nothing at all", "", "", true},
		{"no dependency", "a 1; b 2: a 1", "", true},
		{"no version", "", "a 1", false},
		{"one that hangs on nothing", "a 1", "a 1", true},
		{"a version that is not in the list", "a 1", "b 1", false},
		{"one of two that is not in the list", "a 1", "a 1, b 1", false},
		{"the first one that is not in the list", "b 1", "a 1, b 1", false},
		{"the same key with a greater timestamp", "a 2", "a 1", false},
		{"the same key with a less timestamp", "a 1", "a 2", false},
		{"all that a version hangs on", "a 1; b 2: a 1", "a 1, b 2", true},
		{"without what a version hangs on", "a 1; b 2: a 1", "b 2", false},
		{"without what the first version hangs on", "b 1; a 2: b 1", "a 2", false},
		{"more than what a version hangs on", "a 1; a 3; b 2: a 1", "a 3, b 2", true},
		{"less than what a version hangs on", "a 1; a 3; b 4: a 3", "a 1, b 4", false},
		{"a version that hangs on its own key", "a 1; a 2: a 1", "a 2", true},
		{"a version that is later than itself", "a 1: a 2", "a 1", false},
		{"a version that hangs on itself", "a 1: a 1", "a 1", true},
		{"in a row, all", "a 1; b 2: a 1; c 3: a 1, b 2", "a 1, b 2, c 3", true},
		{"in a row, without the first", "a 1; b 2: a 1; c 3: a 1, b 2", "b 2, c 3", false},
		{"in a row, without the middle", "a 1; b 2: a 1; c 3: a 1, b 2", "a 1, c 3", false},
		{"in a row, without the last", "a 1; b 2: a 1; c 3: a 1, b 2", "a 1, b 2", true},
		{"what hangs on what a version does not tell of", "a 1; b 2: a 1; c 3: b 2", "b 2, c 3", false},
		{"two that hang on each other", "a 1: b 1; b 1: a 1", "a 1, b 1", true},
		{"one of two that hang on each other", "a 1: b 1; b 1: a 1", "a 1", false},
		{"the first of two versions counts, which is covered", "a 1; a 1: b 1", "a 1", true},
		{"the first of two versions counts, which is not", "a 1: b 1; a 1", "a 1", false},
		{"another version that is not closed", "a 1; c 1: b 7", "a 1", true},
		{"an order of the list that goes back", "c 3: a 1, b 2; b 2: a 1; a 1", "a 1, b 2, c 3", true},
		{"a Past that is not valid, covered", "a 1; b 2: c 1, a 1, a 1; c 1", "a 1, b 2, c 1", true},
		{"a Past that is not valid, not covered at its end", "a 1; b 2: a 1, a 2; c 1", "a 1, b 2, c 1", false},
	} {
		if got := Closed(deps(c.p), writes(c.l)); got != c.want {
			t.Errorf("Closed, %s, of %s among %s: %t, want %t", c.why, c.p, c.l, got, c.want)
		}
	}
}

func TestClosedBySites(t *testing.T) {
	l := []api.Version{write(at("a", 3, 1)), write(at("a", 3, 2)), write(at("b", 4, 0), at("a", 3, 2))}
	for _, c := range []struct {
		p    []api.Dep
		want bool
	}{
		{[]api.Dep{at("a", 3, 2), at("b", 4, 0)}, true},
		{[]api.Dep{at("a", 3, 1), at("b", 4, 0)}, false},
		{[]api.Dep{at("a", 3, 3), at("b", 4, 0)}, false},
		{[]api.Dep{at("a", 3, 2), at("b", 4, 1)}, false},
		{[]api.Dep{at("a", 3, 1)}, true},
		{[]api.Dep{at("a", 3, 0)}, false},
	} {
		if got := Closed(c.p, l); got != c.want {
			t.Errorf("Closed(%v, %v): %t, want %t", c.p, l, got, c.want)
		}
	}
}

func TestSound(t *testing.T) {
	for _, c := range []struct {
		why, l string
		want   bool
	}{
		{"no version at all", "", true},
		{"one", "a 1", true},
		{"one after the other", "a 1; b 2: a 1", true},
		{"in an order that goes back", "b 2: a 1; a 1", true},
		{"a key once more", "a 1; a 2: a 1", true},
		{"a key once more, which hangs on nothing", "a 1; a 2", true},
		{"other keys at the same timestamp", "a 1; b 1; c 1", true},
		{"the same version twice", "a 1; a 1", false},
		{"the same version twice, apart", "a 1; b 2: a 1; a 1", false},
		{"the same key and timestamp, another Past", "a 1; b 2; b 2: a 1", false},
		{"a Past whose version is not in the list", "b 2: a 1", false},
		{"a Past that has the key of another version", "a 2; b 4: a 3", false},
		{"a Past at the version's own timestamp", "a 1; b 1: a 1", false},
		{"a Past at a later timestamp", "a 2; b 1: a 2", false},
		{"a Past of which one is too late", "a 1; c 3; b 2: a 1, c 3", false},
		{"a version that hangs on itself", "a 1: a 1", false},
		{"two that hang on each other", "a 1: b 1; b 1: a 1", false},
		{"a Past that is closed", "a 1; b 2: a 1; c 3: a 1, b 2", true},
		{"a Past that lacks what its version hangs on", "a 1; b 2: a 1; c 3: b 2", false},
		{"a Past that has less than its version hangs on", "a 1; a 2: a 1; b 3: a 2; c 4: a 1, b 3", false},
		{"a Past that has more than its version hangs on", "a 1; a 2: a 1; b 3: a 1; c 4: a 2, b 3", true},
		{"falling keys", "a 1; b 1; c 3: b 1, a 1", false},
		{"a key twice", "a 1; a 2: a 1; c 3: a 1, a 2", false},
		{"a dependency twice", "a 1; c 3: a 1, a 1", false},
		{"the least number", "a 0", false},
		{"the greatest number", "a 1099511627776", true},
		{"a number behind the greatest", "a 1099511627777", false},
		{"a number below 0", "a -1", false},
		{"the last one of many is wrong", "a 1; b 2: a 1; c 3: a 1, b 2; d 4: c 3", false},
		{"the first one of many is wrong", "d 4: c 3; a 1; b 2: a 1; c 3: a 1, b 2", false},
	} {
		if got := Sound(writes(c.l)); got != c.want {
			t.Errorf("Sound, %s, %s: %t, want %t", c.why, c.l, got, c.want)
		}
	}
}

func TestSoundByPartsOfVersions(t *testing.T) {
	wide, all := chain(24)
	over, more := chain(25)
	for _, c := range []struct {
		why  string
		l    []api.Version
		want bool
	}{
		{"site 0 and site 5", []api.Version{write(at("a", 1, 0)), write(at("a", 1, 5))}, true},
		{"site 6", []api.Version{write(at("a", 1, 6))}, false},
		{"site -1", []api.Version{write(at("a", 1, -1))}, false},
		{"the zero timestamp", []api.Version{write(api.Dep{Key: "a"})}, false},
		{"the zero version", make([]api.Version, 1), false},
		{"sites in order", []api.Version{write(at("a", 1, 0)), write(at("b", 1, 1), at("a", 1, 0))}, true},
		{"sites not in order", []api.Version{write(at("a", 1, 1)), write(at("b", 1, 0), at("a", 1, 1))}, false},
		{"MaxPast dependencies", append(wide, write(dep("z", 30), all...)), true},
		{"MaxPast dependencies and one more", append(over, write(dep("z", 30), more...)), false},
		{"a Past with a wrong key", []api.Version{write(dep("a b", 1)), write(dep("b", 2), dep("a b", 1))}, false},
		{"a Past with an empty key", []api.Version{write(dep("", 1)), write(dep("b", 2), dep("", 1))}, false},
		{"a Past with a wrong timestamp", []api.Version{write(dep("b", 2), api.Dep{Key: "a"})}, false},
		// The chapter asks for a valid Stamp and Past, and for no more.
		{"a wrong key that none hangs on", []api.Version{write(dep("a b", 1)), write(dep("", 1))}, true},
		{"a long value of a version that is gone", []api.Version{{Key: "a", Value: strings.Repeat("v", 40), Gone: true, Stamp: dep("a", 1).Stamp}}, true},
		{"versions that differ in their value alone", marked(writes("a 1; a 1")), false},
	} {
		if got := Sound(c.l); got != c.want {
			t.Errorf("Sound, %s, %v: %t, want %t", c.why, c.l, got, c.want)
		}
	}
}

// P5.2

func TestReduce(t *testing.T) {
	for _, c := range []struct{ why, l, p, want string }{
		{"nothing at all", "", "", ""},
		{"no dependency", "a 1; b 2: a 1", "", ""},
		{"no version", "", "a 1, b 2", "a 1, b 2"},
		{"the chapter's example", "a 1; b 2: a 1", "a 1, b 2", "b 2"},
		{"the first one implies the last", "b 1; a 2: b 1", "a 2, b 1", "a 2"},
		{"nothing is left out", "a 1; b 2; c 3", "a 1, b 2, c 3", "a 1, b 2, c 3"},
		{"others that a version hangs on", "b 2: d 1, e 1; a 1", "a 1, b 2", "a 1, b 2"},
		{"a version that is not in the list implies nothing", "a 1", "a 1, b 2", "a 1, b 2"},
		{"a version that is not in the list is implied", "b 2: a 1", "a 1, b 2", "b 2"},
		{"a version with another timestamp implies nothing", "b 3: a 1; b 1: a 1", "a 1, b 2", "a 1, b 2"},
		{"a timestamp that is less", "b 4: a 1", "a 2, b 4", "a 2, b 4"},
		{"a timestamp that is equal", "b 4: a 2", "a 2, b 4", "b 4"},
		{"a timestamp that is greater", "b 4: a 3", "a 2, b 4", "b 4"},
		{"a row", "a 1; b 2: a 1; c 3: a 1, b 2; d 4: a 1, b 2, c 3", "a 1, b 2, c 3, d 4", "d 4"},
		{"a row in which each tells of the one ahead alone", "b 2: a 1; c 3: b 2; d 4: c 3", "a 1, b 2, c 3, d 4", "d 4"},
		{"a row that goes back", "a 2: b 1; b 1: c 1", "a 2, b 1, c 1", "a 2"},
		{"two that imply each other", "a 1: b 1; b 1: a 1", "a 1, b 1", ""},
		{"two that imply each other and a third one", "a 1: b 1; b 1: a 1; c 1", "a 1, b 1, c 1", "c 1"},
		{"one that would imply itself", "a 1: a 1; b 1", "a 1, b 1", "a 1, b 1"},
		{"one that would imply itself, which another one implies", "a 1: a 1; b 2: a 1", "a 1, b 2", "b 2"},
		{"one that would imply itself, of which another one has less", "a 2: a 2; b 3: a 1", "a 2, b 3", "a 2, b 3"},
		{"a single one is left of many", "d 9: a 1, b 2, c 3, e 4", "a 1, b 2, c 3, d 9, e 4", "d 9"},
		{"two of them imply a third", "b 2: a 1; c 3: a 1", "a 1, b 2, c 3", "b 2, c 3"},
		{"one of two implies a third", "b 3: a 1; c 3: a 2", "a 2, b 3, c 3", "b 3, c 3"},
		{"a version outside of p implies nothing", "c 3: a 1, b 2", "a 1, b 2", "a 1, b 2"},
		{"the first of two versions counts, which implies", "b 2: a 1; b 2", "a 1, b 2", "b 2"},
		{"the first of two versions counts, which does not", "b 2; b 2: a 1", "a 1, b 2", "a 1, b 2"},
		{"a Past that is not valid and has a key twice", "b 4: a 1, a 3", "a 2, b 4", "b 4"},
		{"a Past that is not valid and has a key twice, greater first", "b 4: a 3, a 1", "a 2, b 4", "b 4"},
		{"an order of p that is not valid", "a 1; b 2: a 1; c 1", "c 1, b 2, a 1", "c 1, b 2"},
		{"a key twice, of which the later one implies the other", "a 2: a 1", "a 1, a 2", "a 2"},
	} {
		if got, want := Reduce(deps(c.p), writes(c.l)), deps(c.want); !slices.Equal(got, want) {
			t.Errorf("Reduce, %s, of %s with %s: %v, want %v", c.why, c.p, c.l, got, want)
		}
	}
}

func TestReduceBySites(t *testing.T) {
	l := []api.Version{write(at("b", 4, 0), at("a", 3, 2))}
	for site, implied := range []bool{true, true, true, false, false, false} {
		p := []api.Dep{at("a", 3, site), at("b", 4, 0)}
		want := p
		if implied {
			want = p[1:]
		}
		if got := Reduce(p, l); !slices.Equal(got, want) {
			t.Errorf("Reduce(%v, %v): %v, want %v", p, l, got, want)
		}
	}
}

// A Past without the key contains no timestamp for it, not even the zero one.
func TestReduceOfWrongTimestamps(t *testing.T) {
	l := []api.Version{write(dep("b", 4), dep("c", 1), at("d", -1, 0))}
	p := []api.Dep{{Key: "a"}, at("a", -1, 9), dep("b", 4), at("d", -1, 0), at("d", -1, 1), {Key: "d"}}
	want := []api.Dep{{Key: "a"}, at("a", -1, 9), dep("b", 4), at("d", -1, 1), {Key: "d"}}
	if got := Reduce(p, l); !slices.Equal(got, want) {
		t.Errorf("Reduce(%v, %v): %v, want %v", p, l, got, want)
	}
}

func TestExpand(t *testing.T) {
	for _, c := range []struct{ why, l, p, want string }{
		{"nothing at all", "", "", ""},
		{"no dependency", "a 1; b 2: a 1", "", ""},
		{"no version", "", "a 1, b 2", "a 1, b 2"},
		{"one that hangs on nothing", "a 1", "a 1", "a 1"},
		{"the chapter's example", "a 1; b 2: a 1", "b 2", "a 1, b 2"},
		{"what comes behind", "b 1; a 2: b 1", "a 2", "a 2, b 1"},
		{"what is there already", "a 1; b 2: a 1", "a 1, b 2", "a 1, b 2"},
		{"a timestamp that is less", "b 4: a 1", "a 2, b 4", "a 2, b 4"},
		{"a timestamp that is greater", "b 4: a 3", "a 2, b 4", "a 3, b 4"},
		{"the greatest one of several", "b 4: a 1; c 5: a 3; d 6: a 2", "b 4, c 5, d 6", "a 3, b 4, c 5, d 6"},
		{"a version that is not in the list", "a 1; b 2: a 1", "b 3", "b 3"},
		{"some versions that are not in the list", "b 2: a 1", "b 2, c 3", "a 1, b 2, c 3"},
		{"one step, and no more", "b 2: a 1; c 3: b 2", "c 3", "b 2, c 3"},
		{"a version that hangs on its own key", "a 2: a 1, b 1", "a 2", "a 2, b 1"},
		{"a version that hangs on its own key, later", "a 2: a 3", "a 2", "a 3"},
		{"the first of two versions counts", "b 2: a 1; b 2: a 2, c 1", "b 2", "a 1, b 2"},
		{"the first of two versions counts, which hangs on nothing", "b 2; b 2: a 1", "b 2", "b 2"},
		{"a version outside of p", "a 1; c 3: b 2", "a 1", "a 1"},
		{"a Past that is not valid", "c 3: b 2, a 1, b 1", "c 3", "a 1, b 2, c 3"},
		{"a Past with a wrong timestamp", "c 3: a 1, b 0", "c 3", "a 1, c 3"},
		{"an order of p that is not valid", "c 3: b 2", "c 3, a 1", "a 1, b 2, c 3"},
		{"a dependency twice", "c 3: b 2", "c 3, c 3", "b 2, c 3"},
		{"a key twice", "c 3: b 2; c 4: b 1, a 1", "c 3, c 4", "a 1, b 2, c 4"},
		{"a wrong timestamp of p, whose version is in the list", "c 0: b 2", "c 0", "b 2"},
	} {
		if got, want := Expand(deps(c.p), writes(c.l)), deps(c.want); !slices.Equal(got, want) {
			t.Errorf("Expand, %s, of %s with %s: %v, want %v", c.why, c.p, c.l, got, want)
		}
	}
}

func TestExpandBeyondMaxPast(t *testing.T) {
	l, p := chain(40)
	if got := Expand(p[39:], l); !slices.Equal(got, p) {
		t.Errorf("Expand of the last one of 40: %v, want %v", got, p)
	}
}

// P5.1 and P5.2, and P5.3 where it applies: all that can be said of few writes and two keys.
func TestAllShortLists(t *testing.T) {
	names := []api.Dep{at("a", 1, 0), at("a", 2, 0), at("b", 1, 1), at("b", 2, 0), at("b", 0, 0)}
	var versions []api.Version
	for _, name := range names {
		for _, p := range subsets(names, 2) {
			versions = append(versions, write(name, p...))
		}
	}
	ps := lists(names, 2)
	sound := 0
	for _, l := range lists(versions, 2) {
		for _, p := range ps {
			holds(t, p, l)
		}
		if Sound(l) {
			sound++
		}
	}
	if sound < 20 {
		t.Errorf("too few sound lists: %d", sound)
	}
}

// P5.3

// soundLists is all sound lists of writes to few keys at the times 1, 2, 3 and so on, each with some closed past.
func soundLists(names []string, count int) [][]api.Version {
	all := [][]api.Version{nil}
	for n := range count {
		var grown [][]api.Version
		for _, l := range all {
			for _, p := range closedPasts(l) {
				for _, name := range names {
					grown = append(grown, append(slices.Clone(l), write(dep(name, n+1), p...)))
				}
			}
		}
		all = grown
	}
	return all
}

// closedPasts is all valid pasts that are closed among l.
func closedPasts(l []api.Version) [][]api.Dep {
	var names []api.Dep
	for _, v := range l {
		names = append(names, api.Dep{Key: v.Key, Stamp: v.Stamp})
	}
	slices.SortFunc(names, func(a, b api.Dep) int { return strings.Compare(a.Key, b.Key) })
	return slices.DeleteFunc(subsets(names, len(l)), func(p []api.Dep) bool { return !validAgain(p) || !closedAgain(p, l) })
}

func TestExpandOfReduceOfAllShortSoundLists(t *testing.T) {
	pasts, shorter := 0, 0
	for _, l := range soundLists([]string{"a", "b", "c"}, 4) {
		if !Sound(l) {
			t.Fatalf("Sound(%v): false, want true", l)
		}
		back := slices.Clone(l)
		slices.Reverse(back)
		for _, p := range closedPasts(l) {
			holds(t, p, l)
			holds(t, p, back)
			pasts++
			if len(Reduce(p, l)) < len(p) {
				shorter++
			}
		}
	}
	if pasts < 10000 || shorter < 1000 {
		t.Errorf("too few pasts: %d, of which %d are reduced", pasts, shorter)
	}
}

// grown is a sound list of writes to some keys by clients that read each other's at random, and what the clients have seen.
func grown(r *rand.Rand, keys, count int) ([]api.Version, [][]api.Dep) {
	seen := make([][]api.Dep, 4)
	var l []api.Version
	for n := range count {
		i := r.IntN(len(seen))
		if r.IntN(2) == 0 {
			seen[i] = merged(seen[i], seen[r.IntN(len(seen))])
			continue
		}
		d := at(keyed(r.IntN(keys)), n+1, i)
		l = append(l, write(d, seen[i]...))
		seen[i] = merged(seen[i], []api.Dep{d})
	}
	r.Shuffle(len(l), func(i, j int) { l[i], l[j] = l[j], l[i] })
	return l, seen
}

func merged(p, q []api.Dep) []api.Dep { return expandAgain(append(slices.Clone(p), q...), nil) }

func TestExpandOfReduceOfGrownLists(t *testing.T) {
	r := rand.New(rand.NewPCG(5, 3))
	full := 0
	for range 100 {
		l, seen := grown(r, 1+r.IntN(24), 10+r.IntN(300))
		if !Sound(l) {
			t.Fatalf("Sound(%v): false, want true", l)
		}
		for _, p := range seen {
			if !Closed(p, l) {
				t.Fatalf("Closed(%v, %v): false, want true", p, l)
			}
			holds(t, p, l)
			if len(p) == 24 {
				full++
			}
		}
		// What is left of a list may lack versions, and what is left of a past others that it hangs on.
		for _, p := range seen {
			if len(p) > 1 {
				holds(t, slices.Delete(slices.Clone(p), 0, 1), l)
				holds(t, p, l[len(l)/4:])
			}
		}
	}
	if full == 0 {
		t.Error("no past has MaxPast dependencies")
	}
}

func TestTheLastOneOfASequenceIsNearest(t *testing.T) {
	for count := 1; count <= 24; count++ {
		l, p := chain(count)
		r := Reduce(p, l)
		if !slices.Equal(r, p[count-1:]) || !slices.Equal(Expand(r, l), p) || !Sound(l) || !Closed(p, l) {
			t.Errorf("of %d writes in a row, Reduce: %v, Expand: %v", count, r, Expand(r, l))
		}
	}
}

// P1: wrong inputs of all kinds.
func TestOfWrongInputsNoCallPanics(t *testing.T) {
	wrong := []api.Dep{
		{}, dep("", 1), dep("a b", 1), dep("b\xff", 3), dep("bbbbbbbbb", 2), at("a", 0, 5), dep("b", -1), dep("a", 1<<40+1),
		at("b", 3, 6), at("b", 3, -1), at("a", math.MaxInt, math.MinInt), at("a", math.MinInt, math.MaxInt), dep("a", 1), dep("b", 2),
	}
	var l []api.Version
	for i, d := range wrong {
		l = append(l, write(d, wrong[i:]...), write(d, wrong[:i]...), write(wrong[len(wrong)-1-i], wrong...))
	}
	for i := range l {
		for j := range wrong {
			holds(t, wrong[j:], l[i:])
			holds(t, wrong[:j], l[:i])
			holds(t, []api.Dep{wrong[j], wrong[j], dep("a", 1), wrong[j]}, l[i:])
		}
	}
	holds(t, nil, nil)
	holds(t, []api.Dep{}, []api.Version{})
	holds(t, make([]api.Dep, 3), make([]api.Version, 3))
}

// R3: what is handed in is neither changed nor kept, but for the pasts inside of versions, which are shared.
func TestArgumentsStayAsTheyAre(t *testing.T) {
	list := func() []api.Version { return writes("c 3: a 1, b 2; b 2: a 1; a 1; d 4") }
	for name, call := range map[string]func(p []api.Dep, l []api.Version) []api.Dep{
		"Reduce": Reduce,
		"Expand": Expand,
		"Closed": func(p []api.Dep, l []api.Version) []api.Dep { Closed(p, l); return nil },
		"Sound":  func(_ []api.Dep, l []api.Version) []api.Dep { Sound(l); return nil },
		"Find":   func(p []api.Dep, l []api.Version) []api.Dep { Find(l, p[0]); return nil },
	} {
		for _, s := range []string{"a 1, b 2, c 3, d 4", "d 4, c 3, b 2, a 1", "a 1, d 4, e 5, f 6", "c 3, c 3, b 2, c 3"} {
			// The two at the end are the owner's, though not of this past: an append to it would write over them.
			p, l := deps(s), list()
			got := call(p[:2], l)
			want := slices.Clone(got)
			if !slices.Equal(p, deps(s)) || !slices.EqualFunc(l, list(), sameVersion) {
				t.Errorf("%s of %s changed what it was given: %v, %v", name, s, p, l)
			}
			clear(p)
			clear(l)
			if !slices.Equal(got, want) {
				t.Errorf("%s of %s: %v after its arguments were changed, ahead %v", name, s, got, want)
			}
			p, l = deps(s), list()
			got = call(p[:2], l)
			clear(got[:cap(got)])
			if !slices.Equal(p, deps(s)) || !slices.EqualFunc(l, list(), sameVersion) {
				t.Errorf("%s of %s: its arguments after its answer was changed: %v, %v", name, s, p, l)
			}
		}
	}
}

func TestFoundVersionIsTheCallers(t *testing.T) {
	l := marked(writes("a 1; b 2: a 1"))
	v, _ := Find(l, dep("b", 2))
	l[1] = api.Version{}
	if want := marked(writes("a 1; b 2: a 1"))[1]; !sameVersion(v, want) {
		t.Errorf("Find: %v after its list was changed, want %v", v, want)
	}
}

// P1 and R5: size alone must neither stop a call nor slow it down out of proportion.
func TestLargeInputs(t *testing.T) {
	const count = 1 << 16
	var l []api.Version
	var p []api.Dep
	for i := range count {
		d := at(keyed(i), i+1, i%api.MaxSites)
		p = append(p, d)
		// A write hangs on the writes of its group of 25 that came ahead of it.
		l = append(l, write(d, slices.Clone(p[i/25*25:i])...))
	}
	slices.Reverse(l)
	if !Sound(l) || Sound(append(l, l[0])) || Sound(append(l, write(dep("z", 2), dep("y", 1)))) {
		t.Errorf("Sound of %d versions goes wrong", count)
	}
	if !Closed(p, l) || Closed(p[1:], l) || Closed(append(p, dep("z", 1)), l) {
		t.Errorf("Closed of %d dependencies goes wrong", count)
	}
	r := Reduce(p, l)
	if len(r) != count/25+1 || r[0] != p[24] || r[len(r)-1] != p[count-1] {
		t.Errorf("Reduce of %d dependencies: %d", count, len(r))
	}
	if got := Expand(r, l); !slices.Equal(got, p) {
		t.Errorf("Expand of %d dependencies: %d, want %d", len(r), len(got), count)
	}
	if v, ok := Find(l, p[0]); !ok || !sameVersion(v, l[count-1]) {
		t.Errorf("Find of the last one of %d versions: %v, %t", count, v, ok)
	}
}

// A past that is not valid may name a version with a long Past many times.
func TestLargeInputsThatAreNotValid(t *testing.T) {
	const count = 1 << 17
	many := slices.Repeat([]api.Dep{dep("z", 1)}, count)
	_, long := chain(2)
	for i := range count {
		long = append(long, dep(keyed(i+2), 1))
	}
	l := []api.Version{write(dep("z", 1), long...), write(dep("z", 1))}
	if got := Reduce(many, l); !slices.Equal(got, many) {
		t.Errorf("Reduce of one dependency, %d times: %d", count, len(got))
	}
	if got := Expand(many, l); len(got) != len(long)+1 {
		t.Errorf("Expand of one dependency, %d times: %d, want %d", count, len(got), len(long)+1)
	}
	if Closed(many, l) || !Closed(many, l[1:]) {
		t.Errorf("Closed of one dependency, %d times, goes wrong", count)
	}
	hanging := make([]api.Version, 0, count)
	for i := range count / 2 {
		hanging = append(hanging, write(dep(keyed(i), 2), dep("z", 1)))
	}
	if Sound(append(hanging, l[0])) || !Sound(append(hanging, l[1])) {
		t.Errorf("Sound of %d versions that hang on one goes wrong", len(hanging))
	}
}

// fuzzed is a past and a list of versions out of bytes: one each for a dependency, 0 ends a past.
func fuzzed(s string) (p []api.Dep, l []api.Version) {
	for i, part := range strings.Split(s, "\x00") {
		var all []api.Dep
		for _, b := range []byte(part) {
			all = append(all, at(string(rune('a'+b%4)), int(b/4%8), int(b/32)-1))
		}
		if i == 0 {
			p = all
		} else if len(all) > 0 {
			l = append(l, write(all[0], all[1:]...))
		}
	}
	return p, l
}

func FuzzNearest(f *testing.F) {
	f.Add("\x24\x29\x00\x24\x00\x29\x24")
	f.Add("\x24\x29\x2e\x00\x24\x00\x29\x24\x00\x2e\x24\x29")
	f.Add("\x24\x25\x00\x24\x25\x00\x25\x24")
	f.Add("\xff\x01\x24\x24\x00\x00\x24\xff\x01")
	f.Fuzz(func(t *testing.T, s string) {
		p, l := fuzzed(s)
		holds(t, p, l)
		for _, d := range p {
			v, ok := Find(l, d)
			i, there := findAgain(l, d)
			if ok != there || ok && !sameVersion(v, l[i]) || !ok && !sameVersion(v, api.Version{}) {
				t.Errorf("Find(%v, %v): %v, %t", l, d, v, ok)
			}
		}
	})
}

// The words of the document's examples.
func TestExamples(t *testing.T) {
	l, p := writes("a 1; b 2: a 1"), deps("a 1, b 2")
	r := Reduce(p, l)
	if !slices.Equal(r, deps("b 2")) || !slices.Equal(Expand(r, l), p) {
		t.Errorf("Reduce: %v, Expand of it: %v, want (b 2) and (a 1), (b 2)", r, Expand(r, l))
	}
}
