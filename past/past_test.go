package past

import (
	"encoding/binary"
	"fmt"
	"maps"
	"math"
	"slices"
	"strings"
	"testing"
	"unicode/utf8"

	"archipelago/api"
)

// dep is a dependency on a write of site 1.
func dep(key string, n int) api.Dep { return api.Dep{Key: key, Stamp: api.Stamp{N: n, Site: 1}} }

// at is a dependency on a write of any site.
func at(key string, n, site int) api.Dep {
	return api.Dep{Key: key, Stamp: api.Stamp{N: n, Site: site}}
}

// row is a valid past but for its length: so many keys of three letters, in order.
func row(count int) []api.Dep {
	p := make([]api.Dep, count)
	for i := range p {
		p[i] = at(fmt.Sprintf("k%02d", i), i+1, i%api.MaxSites)
	}
	return p
}

// wrong are dependencies that are not valid, by their key or by their timestamp.
var wrong = []struct {
	why string
	d   api.Dep
}{
	{"an empty key", dep("", 3)},
	{"a key with rune 20", dep("a b", 3)},
	{"a key of rune 0", dep("\x00", 3)},
	{"a key of 9 runes", dep("bbbbbbbbb", 3)},
	{"a key that is not UTF-8", dep("b\xff", 3)},
	{"a key of two bytes of three", dep("\xef\xbf", 3)},
	{"the zero timestamp", api.Dep{Key: "b"}},
	{"the number 0", at("b", 0, 5)},
	{"a number below 0", dep("b", -1)},
	{"the least number", dep("b", math.MinInt)},
	{"a number behind MaxStamp", dep("b", 1<<40+1)},
	{"the greatest number", dep("b", math.MaxInt)},
	{"site 6", at("b", 3, 6)},
	{"site -1", at("b", 3, -1)},
	{"the greatest site", at("b", 3, math.MaxInt)},
	{"nothing", api.Dep{}},
}

// some are dependencies of which short lists of all kinds are made: valid ones on few keys, and a few that are not.
var some = []api.Dep{
	at("a", 1, 0), at("a", 2, 0), at("a", 2, 5), at("b", 1, 3), at("b", 1<<40, 5), at("ba", 2, 1), at("é", 300, 2),
	{}, at("a", 1<<40+1, 0), at("a", 0, 3), at("b", -1, 9), at("a b", 2, 0), at("", 7, 1), at("b\xff", 1, 1),
}

// lists is all lists of at most so many dependencies out of some, valid or not.
func lists(most int) [][]api.Dep {
	all := [][]api.Dep{nil}
	for from := 0; most > 0; most-- {
		grown := len(all)
		for _, p := range all[from:grown] {
			for _, d := range some {
				all = append(all, append(slices.Clone(p), d))
			}
		}
		from = grown
	}
	return all
}

// validLists is the lists of them that are valid pasts.
func validLists(most int) [][]api.Dep {
	return slices.DeleteFunc(lists(most), func(p []api.Dep) bool { return !checkAgain(p) })
}

// What the chapter says, by other means than the program's.

func stampAgain(s api.Stamp) bool { return 1 <= s.N && s.N <= 1<<40 && 0 <= s.Site && s.Site <= 5 }

func keyAgain(s string) bool {
	n := utf8.RuneCountInString(s)
	return utf8.ValidString(s) && n >= 1 && n <= 8 && !strings.ContainsFunc(s, func(r rune) bool { return r < 0x21 })
}

func depAgain(d api.Dep) bool { return keyAgain(d.Key) && stampAgain(d.Stamp) }

func greater(a, b api.Stamp) bool { return a.N > b.N || a.N == b.N && a.Site > b.Site }

func checkAgain(p []api.Dep) bool {
	for i, d := range p {
		for _, e := range p[:i] {
			if e.Key >= d.Key {
				return false
			}
		}
		if !depAgain(d) {
			return false
		}
	}
	return len(p) <= 24
}

func getAgain(p []api.Dep, key string) api.Stamp {
	for _, d := range p {
		if d.Key == key {
			return d.Stamp
		}
	}
	return api.Stamp{}
}

func coversAgain(p, q []api.Dep) bool {
	for _, d := range q {
		if greater(d.Stamp, getAgain(p, d.Key)) {
			return false
		}
	}
	return true
}

func mergeAgain(l ...[]api.Dep) []api.Dep {
	most := map[string]api.Stamp{}
	for _, p := range l {
		for _, d := range p {
			if depAgain(d) && greater(d.Stamp, most[d.Key]) {
				most[d.Key] = d.Stamp
			}
		}
	}
	var out []api.Dep
	for _, key := range slices.Sorted(maps.Keys(most)) {
		out = append(out, api.Dep{Key: key, Stamp: most[key]})
	}
	return out
}

// encoded is the bytes of a list of dependencies, valid or not, by the library of Go, which writes the same numbers.
func encoded(p []api.Dep) string {
	out := binary.AppendUvarint(nil, uint64(len(p)))
	for _, d := range p {
		out = binary.AppendUvarint(out, uint64(len(d.Key)))
		out = append(out, d.Key...)
		out = binary.AppendUvarint(out, uint64(d.Stamp.N))
		out = binary.AppendUvarint(out, uint64(d.Stamp.Site))
	}
	return string(out)
}

// readAgain decodes what begins s by the library of Go, and holds it against its own encoding so that this is the shortest one.
func readAgain(s string) (p []api.Dep, end int, ok bool) {
	number := func() uint64 {
		n, long := binary.Uvarint([]byte(s[end:]))
		ok = ok && long > 0
		end += max(long, 0)
		return n
	}
	ok = true
	count := number()
	if count > 24 {
		return nil, 0, false
	}
	for range count {
		long := number()
		if !ok || long > uint64(len(s)-end) {
			return nil, 0, false
		}
		key := s[end : end+int(long)]
		end += int(long)
		p = append(p, at(key, int(number()), int(number())))
	}
	if !ok || !checkAgain(p) || encoded(p) != s[:end] {
		return nil, 0, false
	}
	return p, end, true
}

// P4.1

func TestCheck(t *testing.T) {
	for _, c := range []struct {
		why  string
		p    []api.Dep
		want bool
	}{
		{"nil", nil, true},
		{"empty", []api.Dep{}, true},
		{"one", []api.Dep{dep("a", 1)}, true},
		{"two", []api.Dep{dep("a", 3), dep("b", 1)}, true},
		{"the same timestamp twice", []api.Dep{dep("a", 3), dep("b", 3)}, true},
		{"a key that begins the next one", []api.Dep{dep("a", 3), dep("aa", 3)}, true},
		{"a key that begins the one ahead", []api.Dep{dep("aa", 3), dep("a", 3)}, false},
		{"bytes, not letters, in order", []api.Dep{dep("Z", 3), dep("a", 3), dep("z", 1), dep("é", 3)}, true},
		{"a rune of two bytes ahead of a letter", []api.Dep{dep("é", 3), dep("z", 1)}, false},
		{"equal keys", []api.Dep{dep("a", 1), dep("a", 2)}, false},
		{"equal dependencies", []api.Dep{dep("a", 1), dep("a", 1)}, false},
		{"falling keys", []api.Dep{dep("b", 1), dep("a", 2)}, false},
		{"equal keys at the end", []api.Dep{dep("a", 1), dep("b", 2), dep("b", 3)}, false},
		{"a key that falls at the end", []api.Dep{dep("a", 1), dep("c", 2), dep("b", 3)}, false},
		{"the least and the greatest timestamps", []api.Dep{at("a", 1, 0), at("b", 1<<40, 5)}, true},
		{"the longest keys", []api.Dep{dep("aaaaaaaa", 1), dep(strings.Repeat("\U0001f600", 8), 1)}, true},
		{"MaxPast of them", row(24), true},
		{"MaxPast and one more", row(25), false},
		{"many", row(100), false},
		{"MaxPast, the last two equal", append(row(23), row(23)[22]), false},
		{"MaxPast, the first two equal", append(row(1), row(23)...), false},
	} {
		if got := Check(c.p); got != c.want {
			t.Errorf("Check, %s, %v: %t, want %t", c.why, c.p, got, c.want)
		}
	}
}

func TestCheckOfWrongDependencies(t *testing.T) {
	for _, c := range wrong {
		for _, p := range [][]api.Dep{{c.d}, {c.d, dep("zz", 3)}, {dep("!", 3), c.d}, {dep("!", 3), c.d, dep("zz", 3)}} {
			if Check(p) {
				t.Errorf("Check, %s, %v: true, want false", c.why, p)
			}
		}
	}
}

func TestCheckOfAllShortLists(t *testing.T) {
	for _, p := range lists(3) {
		if got, want := Check(p), checkAgain(p); got != want {
			t.Fatalf("Check(%v): %t, want %t", p, got, want)
		}
	}
}

func TestGet(t *testing.T) {
	p := []api.Dep{at("a", 3, 2), at("ba", 1<<40, 5), at("é", 1, 0)}
	for _, c := range []struct {
		p    []api.Dep
		key  string
		want api.Stamp
	}{
		{nil, "a", api.Stamp{}},
		{[]api.Dep{}, "a", api.Stamp{}},
		{p, "a", api.Stamp{N: 3, Site: 2}},
		{p, "ba", api.Stamp{N: 1 << 40, Site: 5}},
		{p, "é", api.Stamp{N: 1}},
		{p, "b", api.Stamp{}},
		{p, "baa", api.Stamp{}},
		{p, "!", api.Stamp{}},
		{p, "zz", api.Stamp{}},
		{p, "\U0010ffff", api.Stamp{}},
		{p, "", api.Stamp{}},
		{p, "a\xff", api.Stamp{}},
		{p, "A", api.Stamp{}},
		{row(24), "k00", api.Stamp{N: 1}},
		{row(24), "k23", api.Stamp{N: 24, Site: 5}},
		{row(24), "k24", api.Stamp{}},
		{row(30), "k29", api.Stamp{N: 30, Site: 5}},
	} {
		if got := Get(c.p, c.key); got != c.want {
			t.Errorf("Get(%v, %q): %v, want %v", c.p, c.key, got, c.want)
		}
	}
	for _, p := range validLists(4) {
		for _, d := range append(some, dep("c", 1), dep("b!", 1), dep("\xff", 1)) {
			if got, want := Get(p, d.Key), getAgain(p, d.Key); got != want {
				t.Fatalf("Get(%v, %q): %v, want %v", p, d.Key, got, want)
			}
		}
	}
}

func TestCovers(t *testing.T) {
	p := []api.Dep{at("a", 3, 2), at("b", 1, 0)}
	for _, c := range []struct {
		why  string
		p, q []api.Dep
		want bool
	}{
		{"nothing by nothing", nil, nil, true},
		{"nothing", p, nil, true},
		{"empty", p, []api.Dep{}, true},
		{"by nothing", nil, p, false},
		{"itself", p, p, true},
		{"a part", p, p[1:], true},
		{"the whole by a part", p[1:], p, false},
		{"a less number", p, []api.Dep{at("a", 2, 5)}, true},
		{"a greater number", p, []api.Dep{at("a", 4, 0)}, false},
		{"a less site", p, []api.Dep{at("a", 3, 1)}, true},
		{"an equal site", p, []api.Dep{at("a", 3, 2)}, true},
		{"a greater site", p, []api.Dep{at("a", 3, 3)}, false},
		{"another key", p, []api.Dep{at("c", 1, 0)}, false},
		{"the last one is greater", p, []api.Dep{at("a", 3, 2), at("b", 1, 1)}, false},
		{"the first one is greater", p, []api.Dep{at("a", 3, 3), at("b", 1, 0)}, false},
		{"more than MaxPast", row(25), row(25), true},
		{"one more", row(25), row(26), false},
		// Not valid.
		{"falling keys", p, []api.Dep{at("b", 1, 0), at("a", 3, 2)}, true},
		{"falling keys, one greater", p, []api.Dep{at("b", 1, 1), at("a", 3, 2)}, false},
		{"by falling keys", []api.Dep{at("c", 1, 1), at("b", 1, 0), at("a", 3, 2)}, p, true},
		{"by falling keys, one less", []api.Dep{at("c", 1, 1), at("b", 1, 0), at("a", 3, 1)}, p, false},
		{"a key twice", p, []api.Dep{at("a", 1, 0), at("a", 3, 2)}, true},
		{"a key twice, once greater", p, []api.Dep{at("a", 1, 0), at("a", 3, 3)}, false},
		{"a key twice, greater first", p, []api.Dep{at("a", 3, 3), at("a", 1, 0)}, false},
		{"by a key twice, as Get says", []api.Dep{at("a", 3, 2), at("a", 1, 0)}, []api.Dep{at("a", 3, 2)}, true},
		{"the zero timestamp", nil, []api.Dep{{Key: "a"}}, true},
		{"less than the zero timestamp", nil, []api.Dep{at("a", -1, 9), at("b", 0, -1)}, true},
		{"number 0 of another site", nil, []api.Dep{at("a", 0, 1)}, false},
		{"an empty key", nil, []api.Dep{dep("", 1)}, false},
		{"by an empty key", []api.Dep{dep("", 1)}, []api.Dep{dep("", 1)}, true},
		{"a key that is not UTF-8", []api.Dep{dep("b\xff", 2)}, []api.Dep{dep("b\xff", 1)}, true},
		{"a key that is not UTF-8, greater", []api.Dep{dep("b\xff", 2)}, []api.Dep{dep("b\xff", 3)}, false},
		{"a number behind MaxStamp", []api.Dep{dep("a", 1<<40+1)}, []api.Dep{dep("a", 1<<40)}, true},
		{"by a number behind MaxStamp", []api.Dep{dep("a", 1<<40)}, []api.Dep{dep("a", 1<<40+1)}, false},
		{"less than the zero timestamp, which is none's", []api.Dep{dep("a", -1)}, []api.Dep{{Key: "a"}}, false},
	} {
		if got := Covers(c.p, c.q); got != c.want {
			t.Errorf("Covers, %s, %v, %v: %t, want %t", c.why, c.p, c.q, got, c.want)
		}
	}
}

func TestCoversAndSameOfAllShortLists(t *testing.T) {
	l := lists(2)
	for _, p := range l {
		for _, q := range l {
			if got, want := Covers(p, q), coversAgain(p, q); got != want {
				t.Fatalf("Covers(%v, %v): %t, want %t", p, q, got, want)
			}
			same := len(p) == len(q)
			for i := 0; same && i < len(p); i++ {
				same = p[i].Key == q[i].Key && p[i].Stamp.N == q[i].Stamp.N && p[i].Stamp.Site == q[i].Stamp.Site
			}
			if got := Same(p, q); got != same {
				t.Fatalf("Same(%v, %v): %t, want %t", p, q, got, same)
			}
		}
	}
}

func TestOnly(t *testing.T) {
	p := []api.Dep{dep("a", 1), dep("b", 2), dep("cc", 3), dep("d", 4), dep("é", 5)}
	for _, c := range []struct {
		why  string
		p    []api.Dep
		l    []api.Range
		want []api.Dep
	}{
		{"no range", p, nil, nil},
		{"an empty list of ranges", p, []api.Range{}, nil},
		{"no dependency", nil, []api.Range{{}}, nil},
		{"the range that has no bounds", p, []api.Range{{}}, p},
		{"from b to d", p, []api.Range{{From: "b", To: "d"}}, p[1:3]},
		{"up to b", p, []api.Range{{To: "b"}}, p[:1]},
		{"from d", p, []api.Range{{From: "d"}}, p[3:]},
		{"from a key between two", p, []api.Range{{From: "c"}}, p[2:]},
		{"between two keys", p, []api.Range{{From: "bb", To: "c"}}, nil},
		{"two ranges, in the order of p", p, []api.Range{{From: "d"}, {To: "b"}}, []api.Dep{p[0], p[3], p[4]}},
		{"ranges that overlap", p, []api.Range{{From: "a", To: "c"}, {From: "b", To: "d"}}, p[:3]},
		{"a range twice", p, []api.Range{{From: "b", To: "c"}, {From: "b", To: "c"}}, p[1:2]},
		{"one of many", p, []api.Range{{From: "x"}, {To: "a"}, {From: "a", To: "a"}, {From: "b", To: "b!"}}, []api.Dep{p[1], p[4]}},
		{"a range without a key", p, []api.Range{{From: "d", To: "b"}}, nil},
		{"bounds that are no keys", p, []api.Range{{From: "b ", To: "c\xff"}}, p[2:3]},
		{"all of MaxPast", row(24), []api.Range{{To: "k10"}, {From: "k10"}}, row(24)},
		{"of more than MaxPast", row(30), []api.Range{{From: "k03"}}, row(30)[3:]},
	} {
		if got := Only(c.p, c.l); !slices.Equal(got, c.want) {
			t.Errorf("Only, %s, %v: %v, want %v", c.why, c.l, got, c.want)
		}
	}
}

func TestOnlyOfAllShortLists(t *testing.T) {
	bounds := []string{"", "a", "b", "ba", "é"}
	var ranges []api.Range
	for _, from := range bounds {
		for _, to := range bounds {
			ranges = append(ranges, api.Range{From: from, To: to})
		}
	}
	for _, p := range validLists(4) {
		for _, r := range ranges {
			for _, o := range ranges {
				var want []api.Dep
				for _, d := range p {
					if d.Key >= r.From && (r.To == "" || d.Key < r.To) || d.Key >= o.From && (o.To == "" || d.Key < o.To) {
						want = append(want, d)
					}
				}
				if got := Only(p, []api.Range{r, o}); !slices.Equal(got, want) {
					t.Fatalf("Only(%v, %q and %q): %v, want %v", p, r, o, got, want)
				}
			}
		}
	}
}

func TestSame(t *testing.T) {
	p := []api.Dep{at("a", 3, 2), at("b", 1, 0)}
	for _, c := range []struct {
		why  string
		p, q []api.Dep
		want bool
	}{
		{"nothing", nil, nil, true},
		{"nil and empty", nil, []api.Dep{}, true},
		{"empty and nil", []api.Dep{}, nil, true},
		{"a copy", p, slices.Clone(p), true},
		{"the first one missing", p, p[1:], false},
		{"the last one missing", p, p[:1], false},
		{"the last one more", p[:1], p, false},
		{"nothing and something", nil, p, false},
		{"another number", p, []api.Dep{at("a", 3, 2), at("b", 2, 0)}, false},
		{"another site", p, []api.Dep{at("a", 3, 1), at("b", 1, 0)}, false},
		{"another key", p, []api.Dep{at("a", 3, 2), at("c", 1, 0)}, false},
		{"more than MaxPast", row(30), row(30), true},
		{"more than MaxPast, one missing", row(30), row(29), false},
		// Not valid.
		{"another order", p, []api.Dep{p[1], p[0]}, false},
		{"the same wrong order", []api.Dep{p[1], p[0]}, []api.Dep{p[1], p[0]}, true},
		{"a key twice and once", []api.Dep{p[0], p[0]}, []api.Dep{p[0]}, false},
		{"the zero dependency and nothing", []api.Dep{{}}, nil, false},
		{"the zero dependency", []api.Dep{{}}, []api.Dep{{}}, true},
		{"wrong keys", []api.Dep{dep("b\xff", 1)}, []api.Dep{dep("b\xff", 1)}, true},
		{"different wrong keys", []api.Dep{dep("b\xff", 1)}, []api.Dep{dep("b\xfe", 1)}, false},
		{"wrong timestamps", []api.Dep{at("a", -1, 9)}, []api.Dep{at("a", -1, 9)}, true},
		{"different wrong timestamps", []api.Dep{at("a", -1, 9)}, []api.Dep{at("a", -1, 8)}, false},
	} {
		if got := Same(c.p, c.q); got != c.want {
			t.Errorf("Same, %s, %v, %v: %t, want %t", c.why, c.p, c.q, got, c.want)
		}
	}
}

// P4.2

func TestAdd(t *testing.T) {
	p := []api.Dep{at("b", 3, 2), at("d", 1, 0)}
	b, d := p[0], p[1]
	for _, c := range []struct {
		why  string
		p    []api.Dep
		d    api.Dep
		want []api.Dep
	}{
		{"to nothing", nil, b, []api.Dep{b}},
		{"to an empty past", []api.Dep{}, b, []api.Dep{b}},
		{"ahead of all", p, at("a", 9, 5), []api.Dep{at("a", 9, 5), b, d}},
		{"behind all", p, at("e", 1, 5), []api.Dep{b, d, at("e", 1, 5)}},
		{"between two", p, at("c", 1, 5), []api.Dep{b, at("c", 1, 5), d}},
		{"right ahead of a key", p, at("b~", 1, 5), []api.Dep{b, at("b~", 1, 5), d}},
		{"right behind a key", p, at("d!", 1, 5), []api.Dep{b, d, at("d!", 1, 5)}},
		{"a rune of two bytes", p, at("é", 1, 5), []api.Dep{b, d, at("é", 1, 5)}},
		{"the first key, a less number", p, at("b", 2, 5), p},
		{"the first key, a less site", p, at("b", 3, 1), p},
		{"the first key, equal", p, b, p},
		{"the first key, a greater site", p, at("b", 3, 3), []api.Dep{at("b", 3, 3), d}},
		{"the first key, a greater number", p, at("b", 4, 0), []api.Dep{at("b", 4, 0), d}},
		{"the last key, equal", p, d, p},
		{"the last key, greater", p, at("d", 1<<40, 5), []api.Dep{b, at("d", 1<<40, 5)}},
		{"the only key, less", p[:1], at("b", 1, 0), p[:1]},
		{"the only key, greater", p[:1], at("b", 5, 0), []api.Dep{at("b", 5, 0)}},
		{"to MaxPast", row(24), dep("k24", 1), append(row(24), dep("k24", 1))},
		{"to MaxPast, a key that is there", row(24), row(24)[5], row(24)},
		{"ahead of MaxPast", row(24), dep("a", 1), append([]api.Dep{dep("a", 1)}, row(24)...)},
		{"behind more than MaxPast", row(30), dep("z", 1), append(row(30), dep("z", 1))},
	} {
		if got := Add(c.p, c.d); !slices.Equal(got, c.want) {
			t.Errorf("Add, %s, %v, %v: %v, want %v", c.why, c.p, c.d, got, c.want)
		}
	}
}

func TestAddOfAWrongDependency(t *testing.T) {
	for _, p := range [][]api.Dep{nil, {}, {dep("b", 3)}, {dep("a", 1), dep("b", 3), dep("c", 5)}, row(24), row(25)} {
		for _, c := range wrong {
			if got := Add(p, c.d); !slices.Equal(got, p) {
				t.Errorf("Add, %s, %v to %v: %v", c.why, c.d, p, got)
			}
		}
	}
}

func TestAddToAllShortPasts(t *testing.T) {
	for _, p := range validLists(4) {
		for _, d := range some {
			got := Add(p, d)
			if want := mergeAgain(p, []api.Dep{d}); !slices.Equal(got, want) || !checkAgain(got) {
				t.Fatalf("Add(%v, %v): %v, want %v", p, d, got, want)
			}
		}
	}
}

func TestMerge(t *testing.T) {
	p := []api.Dep{dep("a", 3), dep("b", 1)}
	q := []api.Dep{dep("a", 2), dep("c", 4)}
	for _, c := range []struct {
		why  string
		l    [][]api.Dep
		want []api.Dep
	}{
		{"no past", nil, nil},
		{"an empty past", [][]api.Dep{{}}, nil},
		{"empty pasts", [][]api.Dep{nil, {}, nil}, nil},
		{"one", [][]api.Dep{p}, p},
		{"one and empty ones", [][]api.Dep{nil, p, {}}, p},
		{"the same twice", [][]api.Dep{p, p}, p},
		{"two", [][]api.Dep{p, q}, []api.Dep{dep("a", 3), dep("b", 1), dep("c", 4)}},
		{"two, the other way round", [][]api.Dep{q, p}, []api.Dep{dep("a", 3), dep("b", 1), dep("c", 4)}},
		{"by site", [][]api.Dep{{at("a", 3, 1)}, {at("a", 3, 4)}, {at("a", 3, 2)}, {at("a", 2, 5)}}, []api.Dep{at("a", 3, 4)}},
		{"several", [][]api.Dep{{dep("d", 1)}, q, {dep("b", 7)}, p}, []api.Dep{dep("a", 3), dep("b", 7), dep("c", 4), dep("d", 1)}},
		{"to MaxPast", [][]api.Dep{row(24)[12:], row(24)[:12]}, row(24)},
		{"to more than MaxPast", [][]api.Dep{row(40)[20:], row(40)[:20]}, row(40)},
		{"more than MaxPast", [][]api.Dep{row(40)}, row(40)},
		{"the least and the greatest", [][]api.Dep{{at("a", 1, 0)}, {at("a", 1<<40, 5)}, {at("a", 1<<40, 4)}}, []api.Dep{at("a", 1<<40, 5)}},
		// Not valid.
		{"falling keys", [][]api.Dep{{dep("c", 1), dep("b", 2), dep("a", 3)}}, []api.Dep{dep("a", 3), dep("b", 2), dep("c", 1)}},
		{"a key twice", [][]api.Dep{{dep("a", 1), dep("a", 3), dep("a", 2)}}, []api.Dep{dep("a", 3)}},
		{"a key twice, and in another past", [][]api.Dep{{dep("a", 1), dep("a", 3)}, {dep("b", 1), dep("a", 2)}}, []api.Dep{dep("a", 3), dep("b", 1)}},
		{"all wrong", [][]api.Dep{{{}, dep("a b", 1)}, {dep("a", 0)}}, nil},
		{"a greater timestamp that is not valid", [][]api.Dep{{dep("a", 1<<40+1)}, {dep("a", 3)}}, []api.Dep{dep("a", 3)}},
		{"a greater site that is none", [][]api.Dep{{at("a", 3, 6), at("a", 3, 5)}}, []api.Dep{at("a", 3, 5)}},
	} {
		if got := Merge(c.l...); !slices.Equal(got, c.want) {
			t.Errorf("Merge, %s, %v: %v, want %v", c.why, c.l, got, c.want)
		}
	}
}

func TestMergeOfWrongDependencies(t *testing.T) {
	p := []api.Dep{dep("!", 1), dep("b", 3), dep("zz", 5)}
	for _, c := range wrong {
		for _, l := range [][][]api.Dep{{{c.d}, p}, {p, {c.d}}, {{p[0], c.d}, {p[2], p[1]}}, {{c.d, p[2], p[1], c.d}, {c.d, p[0]}}} {
			if got := Merge(l...); !slices.Equal(got, p) {
				t.Errorf("Merge, %s, %v: %v, want %v", c.why, l, got, p)
			}
		}
		if got := Merge([]api.Dep{c.d}); len(got) != 0 {
			t.Errorf("Merge, %s, %v alone: %v", c.why, c.d, got)
		}
	}
}

func TestMergeOfAllShortLists(t *testing.T) {
	l := lists(2)
	check := func(l ...[]api.Dep) {
		got := Merge(l...)
		if want := mergeAgain(l...); !slices.Equal(got, want) || !checkAgain(got) {
			t.Fatalf("Merge(%v): %v, want %v", l, got, want)
		}
	}
	for i, p := range l {
		check(p)
		for k, q := range l {
			check(p, q)
			check(q, l[(i+k)%len(l)], p)
		}
	}
	for _, p := range lists(4) {
		check(p)
	}
}

// P4.3

func TestBytes(t *testing.T) {
	for _, c := range []struct {
		why  string
		p    []api.Dep
		want string
	}{
		{"nil", nil, "\x00"},
		{"empty", []api.Dep{}, "\x00"},
		{"one", []api.Dep{at("b", 2, 1)}, "\x01\x01b\x02\x01"},
		{"two", []api.Dep{at("a", 300, 5), at("bc", 1, 0)}, "\x02\x01a\xac\x02\x05\x02bc\x01\x00"},
		{"a rune of two bytes", []api.Dep{at("é", 1, 0)}, "\x01\x02\xc3\xa9\x01\x00"},
		{"the greatest timestamp", []api.Dep{at("a", 1<<40, 5)}, "\x01\x01a\x80\x80\x80\x80\x80\x20\x05"},
		{"the longest key", []api.Dep{at(strings.Repeat("\U0010ffff", 8), 1, 0)}, "\x01\x20" + strings.Repeat("\U0010ffff", 8) + "\x01\x00"},
		{"MaxPast", row(24), encoded(row(24))},
		{"MaxPast and one more", row(25), ""},
		{"equal keys", []api.Dep{dep("a", 1), dep("a", 2)}, ""},
		{"falling keys", []api.Dep{dep("b", 1), dep("a", 2)}, ""},
	} {
		if got := Bytes(c.p); got != c.want {
			t.Errorf("Bytes, %s, %v: % x, want % x", c.why, c.p, got, c.want)
		}
	}
	for _, c := range wrong {
		for _, p := range [][]api.Dep{{c.d}, {dep("!", 3), c.d}, {c.d, dep("zz", 3)}} {
			if got := Bytes(p); got != "" {
				t.Errorf("Bytes, %s, %v: % x, want none", c.why, p, got)
			}
		}
	}
	for _, p := range lists(3) {
		want := ""
		if checkAgain(p) {
			want = encoded(p)
		}
		if got := Bytes(p); got != want {
			t.Fatalf("Bytes(%v): % x, want % x", p, got, want)
		}
	}
}

// refuses tells of a Read that does not answer an empty past, 0 and false.
func refuses(t *testing.T, why, s string, at int) {
	t.Helper()
	if p, end, ok := Read(s, at); len(p) != 0 || end != 0 || ok {
		t.Errorf("Read, %s, % x at %d: %v, %d, %t, want none, 0, false", why, s, at, p, end, ok)
	}
}

func TestReadOfValidOnes(t *testing.T) {
	longest := []api.Dep{at(strings.Repeat("\U0010ffff", 8), 1<<40, 5)}
	for _, p := range append(validLists(3), row(23), row(24), longest) {
		bytes := encoded(p)
		for _, front := range []string{"", "\x00", "\x80", "\x01\x01", "\xff\xff\xff"} {
			for _, back := range []string{"", "\x00", "\x80", "\x01a\x01\x00", "\xff\x01"} {
				s := front + bytes + back
				got, end, ok := Read(s, len(front))
				if want := len(front) + len(bytes); !slices.Equal(got, p) || end != want || !ok {
					t.Fatalf("Read(% x, %d): %v, %d, %t, want %v, %d, true", s, len(front), got, end, ok, p, want)
				}
			}
			for cut := range len(bytes) {
				refuses(t, "cut off", front+bytes[:cut], len(front))
			}
		}
	}
}

func TestReadOutsideOfTheString(t *testing.T) {
	for _, s := range []string{"", "\x00", "\x01\x01a\x01\x00", "\x00\x00\x00"} {
		for _, at := range []int{math.MinInt, math.MinInt + 1, -2, -1, len(s), len(s) + 1, math.MaxInt - 1, math.MaxInt} {
			refuses(t, "an offset outside", s, at)
		}
	}
	if p, end, ok := Read("\x01\x01a\x01\x00", 4); len(p) != 0 || end != 5 || !ok {
		t.Errorf("Read of the last byte, a zero: %v, %d, %t", p, end, ok)
	}
}

func TestReadOfNoValidOne(t *testing.T) {
	for _, c := range []struct{ why, s string }{
		{"nothing", ""},
		{"a count that is not complete", "\x80"},
		{"a count with more bytes than necessary", "\x80\x00"},
		{"a count of 1 with more bytes than necessary", "\x81\x00\x01a\x01\x00"},
		{"a count and nothing else", "\x01"},
		{"a count that is too great for what follows", "\x02\x01a\x01\x00"},
		{"a count of 24 and nothing else", "\x18"},
		{"a count of 2^64 - 1", strings.Repeat("\xff", 9) + "\x01\x01a\x01\x00"},
		{"a count of 2^64", strings.Repeat("\x80", 9) + "\x02"},
		{"a count of 2^64 + 1, which wraps to 1", "\x81" + strings.Repeat("\x80", 8) + "\x02\x01a\x01\x00"},
		{"a count of 2^63", strings.Repeat("\x80", 9) + "\x01"},
		{"a count of 2^32 + 1", "\x81\x80\x80\x80\x10\x01a\x01\x00"},
		{"an empty key", "\x01\x00\x01\x00"},
		{"a key with rune 20", "\x01\x01 \x01\x00"},
		{"a key that is not UTF-8", "\x01\x01\xff\x01\x00"},
		{"a key of half a rune", "\x01\x01\xc3\x01\x00"},
		{"a key of 9 runes", "\x01\x09aaaaaaaaa\x01\x00"},
		{"a key of 9 runes of four bytes", "\x01\x24" + strings.Repeat("\U0001f600", 9) + "\x01\x00"},
		{"a length of a key with more bytes than necessary", "\x01\x81\x00a\x01\x00"},
		{"a length of a key that is too great", "\x01\x7fa\x01\x00"},
		{"a length of a key of 2^63", "\x01" + strings.Repeat("\x80", 9) + "\x01a\x01\x00"},
		{"a length of a key of 2^64 - 1", "\x01" + strings.Repeat("\xff", 9) + "\x01a\x01\x00"},
		{"no timestamp", "\x01\x01a"},
		{"half a timestamp", "\x01\x01a\x01"},
		{"the zero timestamp", "\x01\x01a\x00\x00"},
		{"the number 0", "\x01\x01a\x00\x05"},
		{"site 6", "\x01\x01a\x01\x06"},
		{"a number behind MaxStamp", "\x01\x01a\x81\x80\x80\x80\x80\x20\x00"},
		{"a number of 2^64 - 1", "\x01\x01a" + strings.Repeat("\xff", 9) + "\x01\x00"},
		{"a number with more bytes than necessary", "\x01\x01a\x81\x00\x00"},
		{"a site with more bytes than necessary", "\x01\x01a\x01\x80\x00"},
		{"equal keys", encoded([]api.Dep{dep("a", 1), dep("a", 2)})},
		{"equal dependencies", encoded([]api.Dep{dep("a", 1), dep("a", 1)})},
		{"falling keys", encoded([]api.Dep{dep("b", 1), dep("a", 2)})},
		{"a key that begins the one ahead", encoded([]api.Dep{dep("aa", 1), dep("a", 2)})},
		{"keys that fall at the end", encoded([]api.Dep{dep("a", 1), dep("c", 1), dep("b", 2)})},
		{"MaxPast and one more", encoded(row(25))},
		{"many", encoded(row(99))},
	} {
		for _, front := range []string{"", "\x01", "\x80\x01", "\x00"} {
			refuses(t, c.why, front+c.s, len(front))
		}
	}
}

func TestReadOfWrongDependencies(t *testing.T) {
	for _, c := range wrong {
		for _, p := range [][]api.Dep{{c.d}, {dep("!", 3), c.d}, {c.d, dep("zz", 3)}, {dep("!", 3), c.d, dep("zz", 3)}} {
			refuses(t, c.why, encoded(p), 0)
			refuses(t, c.why+", other bytes behind", encoded(p)+"\x01\x00", 0)
		}
	}
	for _, p := range lists(3) {
		got, end, ok := Read(encoded(p), 0)
		if want := checkAgain(p); ok != want || ok && (!slices.Equal(got, p) || end != len(encoded(p))) || !ok && (len(got) != 0 || end != 0) {
			t.Fatalf("Read of the bytes of %v: %v, %d, %t, want %t", p, got, end, ok, want)
		}
	}
}

// shortStrings calls do with every string of at most so many bytes out of these.
func shortStrings(bytes string, most int, do func(s string)) {
	var grow func(s string)
	grow = func(s string) {
		do(s)
		if len(s) == most {
			return
		}
		for i := range len(bytes) {
			grow(s + bytes[i:i+1])
		}
	}
	grow("")
}

func TestReadOfAllShortStrings(t *testing.T) {
	valid := map[int]int{}
	check := func(s string) {
		p, end, ok := Read(s, 0)
		wantP, wantEnd, want := readAgain(s)
		if !slices.Equal(p, wantP) || end != wantEnd || ok != want {
			t.Fatalf("Read(% x, 0): %v, %d, %t, want %v, %d, %t", s, p, end, ok, wantP, wantEnd, want)
		}
		if ok {
			valid[len(p)]++
		}
	}
	shortStrings("\x00\x01\x02\x05\x06\x18a\x80\xff", 6, check)
	// Behind one dependency on a key between those of others.
	shortStrings("\x00\x01\x02abc\x80", 5, func(s string) { check("\x02\x01b\x03\x04" + s) })
	if valid[0] == 0 || valid[1] == 0 || valid[2] == 0 {
		t.Errorf("too few valid pasts among the strings: %v", valid)
	}
}

func TestReadOneAfterAnother(t *testing.T) {
	want := append(validLists(3), row(24))
	var all strings.Builder
	for _, p := range want {
		all.WriteString(Bytes(p))
	}
	s, offset := all.String(), 0
	for i, p := range want {
		got, end, ok := Read(s, offset)
		if !ok || !slices.Equal(got, p) {
			t.Fatalf("Read at %d, past %d: %v, %d, %t, want %v", offset, i, got, end, ok, p)
		}
		offset = end
	}
	if offset != len(s) {
		t.Errorf("read up to %d of %d bytes", offset, len(s))
	}
}

// P4.4

func TestMergedCoversItsParts(t *testing.T) {
	l := validLists(4)
	for _, p := range l {
		for _, q := range l {
			m := Merge(p, q)
			if !Covers(m, p) || !Covers(m, q) || !Check(m) {
				t.Fatalf("%v, merged of %v and %v, does not cover them", m, p, q)
			}
			// It is the least one: it has nothing that no part has.
			for _, d := range m {
				if !slices.Contains(p, d) && !slices.Contains(q, d) {
					t.Fatalf("%v, merged of %v and %v, has %v, which is in neither", m, p, q, d)
				}
			}
		}
	}
}

func TestMergedIsCoveredByWhatCoversItsParts(t *testing.T) {
	l := validLists(3)
	for _, p := range l {
		for _, q := range l {
			m := Merge(p, q)
			for _, r := range l {
				if both := Covers(r, p) && Covers(r, q); Covers(r, m) != both {
					t.Fatalf("%v covers %v and %v: %t, and %v, which is merged of them: %t", r, p, q, both, m, !both)
				}
			}
		}
	}
}

func TestReadReturnsWhatBytesEncoded(t *testing.T) {
	for _, p := range append(validLists(5), row(24)) {
		s := Bytes(p)
		if got, end, ok := Read(s, 0); !Same(got, p) || end != len(s) || !ok {
			t.Fatalf("Read(Bytes(%v), 0): %v, %d, %t", p, got, end, ok)
		}
	}
}

// P1: for pasts that are not valid, calls end without a panic.
func TestOfAllShortListsNoCallPanics(t *testing.T) {
	for _, p := range lists(3) {
		for _, d := range some {
			Get(p, d.Key)
			Add(p, d)
		}
		Only(p, []api.Range{{To: "b"}, {From: "ba", To: "a"}})
	}
	for _, c := range wrong {
		p := []api.Dep{c.d, dep("b", 3), c.d}
		for _, e := range wrong {
			Get(p, e.d.Key)
			Add(p, e.d)
			Only(p, []api.Range{{From: e.d.Key}, {To: e.d.Key}})
		}
	}
}

// R3: what is handed in is neither changed nor kept, and an answer is memory of its own.
func TestArgumentsStayAsTheyAre(t *testing.T) {
	full := []api.Dep{dep("b", 2), dep("d", 4), dep("f", 6), dep("h", 8)}
	other := []api.Dep{dep("h", 1), dep("a", 9), dep("b", 0), dep("a", 3)}
	ranges := []api.Range{{}}
	for name, call := range map[string]func(p, q []api.Dep) []api.Dep{
		"Add ahead":         func(p, _ []api.Dep) []api.Dep { return Add(p, dep("a", 1)) },
		"Add between":       func(p, _ []api.Dep) []api.Dep { return Add(p, dep("c", 1)) },
		"Add behind":        func(p, _ []api.Dep) []api.Dep { return Add(p, dep("e", 1)) },
		"Add greater":       func(p, _ []api.Dep) []api.Dep { return Add(p, dep("b", 9)) },
		"Add less":          func(p, _ []api.Dep) []api.Dep { return Add(p, dep("b", 1)) },
		"Add not valid":     func(p, _ []api.Dep) []api.Dep { return Add(p, api.Dep{}) },
		"Merge of one":      func(p, _ []api.Dep) []api.Dep { return Merge(p) },
		"Merge with others": func(p, q []api.Dep) []api.Dep { return Merge(p, q, nil) },
		"Merge of wrong":    func(_, q []api.Dep) []api.Dep { return Merge(q) },
		"Only of all":       func(p, _ []api.Dep) []api.Dep { return Only(p, ranges) },
		"Only of some":      func(p, _ []api.Dep) []api.Dep { return Only(p, []api.Range{{From: "c"}}) },
	} {
		// The two at the end are the owner's, though not of this past: an append to it would write over them.
		mine, others := slices.Clone(full), slices.Clone(other)
		got := call(mine[:2], others)
		want := slices.Clone(got)
		if !slices.Equal(mine, full) || !slices.Equal(others, other) {
			t.Errorf("%s changed what it was given: %v, %v", name, mine, others)
		}
		clear(mine)
		clear(others)
		if !slices.Equal(got, want) {
			t.Errorf("%s: %v after its arguments were changed, ahead %v", name, got, want)
		}
		mine, others = slices.Clone(full), slices.Clone(other)
		got = call(mine[:2], others)
		clear(got[:cap(got)])
		if !slices.Equal(mine, full) || !slices.Equal(others, other) {
			t.Errorf("%s: its arguments after its answer was changed: %v, %v", name, mine, others)
		}
	}
	if !slices.Equal(ranges, []api.Range{{}}) {
		t.Errorf("Only changed its ranges: %v", ranges)
	}
}

func TestQueriesChangeNothing(t *testing.T) {
	p := []api.Dep{dep("b", 2), dep("a", 4), dep("b", 1)}
	q := slices.Clone(p)
	Check(p)
	Get(p, "b")
	Covers(p, q)
	Same(p, q)
	Bytes(p)
	if want := []api.Dep{dep("b", 2), dep("a", 4), dep("b", 1)}; !slices.Equal(p, want) || !slices.Equal(q, want) {
		t.Errorf("queries changed their pasts: %v, %v", p, q)
	}
}

// P1 and R5: size alone must neither stop a call nor slow it down out of proportion.
func TestLargeInputs(t *testing.T) {
	const count = 1 << 17
	p := make([]api.Dep, count)
	for i := range p {
		p[i] = at(fmt.Sprintf("%08d", i), i+1, i%api.MaxSites)
	}
	back := slices.Clone(p)
	slices.Reverse(back)
	if m := Merge(back, p, back); !Same(m, p) || !Covers(m, back) || !Covers(back, m) || Covers(m[1:], back) {
		t.Errorf("Merge and Covers of %d dependencies go wrong", count)
	}
	if Check(p) || Bytes(p) != "" {
		t.Errorf("%d dependencies are a valid past", count)
	}
	if got := Add(p, dep("~", 1)); len(got) != count+1 || Get(got, "~") != (api.Stamp{N: 1, Site: 1}) {
		t.Errorf("Add to %d dependencies: %d", count, len(got))
	}
	if got := Only(p, []api.Range{{To: "00000001"}, {From: "00131071"}}); len(got) != 2 {
		t.Errorf("Only of %d dependencies: %d, want 2", count, len(got))
	}
	l := make([][]api.Dep, count)
	for i := range l {
		l[i] = back[i : i+1]
	}
	if !Same(Merge(l...), p) {
		t.Errorf("Merge of %d pasts goes wrong", count)
	}
	refuses(t, "many dependencies", encoded(p), 0)
	refuses(t, "many bytes without an end", strings.Repeat("\x80", count), 0)
	refuses(t, "a long key", "\x01\x80\x80\x04"+strings.Repeat("a", 1<<16)+"\x01\x00", 0)
	s := strings.Repeat("\x00", count) + encoded(row(24)) + strings.Repeat("\xff", count)
	if got, end, ok := Read(s, count); !Same(got, row(24)) || end != len(s)-count || !ok {
		t.Errorf("Read in the middle of %d bytes: %v, %d, %t", len(s), got, end, ok)
	}
}

func FuzzPast(f *testing.F) {
	f.Add("\x02\x01a\xac\x02\x05\x02bc\x01\x00", 0, "a", 3, 2)
	f.Add("\x00\x02\x01b\x01\x00\x01a\x01\x00\x00", 1, "b\xff", 1<<40+1, 6)
	f.Fuzz(func(t *testing.T, s string, offset int, key string, n, site int) {
		p, end, ok := Read(s, offset)
		if ok && (!checkAgain(p) || s[offset:end] != encoded(p) || Bytes(p) != encoded(p)) || !ok && (len(p) != 0 || end != 0) {
			t.Errorf("Read(% x, %d): %v, %d, %t", s, offset, p, end, ok)
		}
		if offset >= 0 && offset <= len(s) {
			if want, _, fine := readAgain(s[offset:]); fine != ok || !slices.Equal(p, want) {
				t.Errorf("Read(% x, %d): %v, %t, want %v, %t", s, offset, p, ok, want, fine)
			}
		}
		d := at(key, n, site)
		q := []api.Dep{d, dep(key, 3)}
		if got, want := Add(p, d), mergeAgain(p, []api.Dep{d}); !slices.Equal(got, want) {
			t.Errorf("Add(%v, %v): %v, want %v", p, d, got, want)
		}
		if got, want := Merge(q, p), mergeAgain(p, q); !slices.Equal(got, want) {
			t.Errorf("Merge(%v, %v): %v, want %v", q, p, got, want)
		}
		if got, want := Covers(p, q), coversAgain(p, q); got != want {
			t.Errorf("Covers(%v, %v): %t, want %t", p, q, got, want)
		}
		if got, want := Covers(q, p), coversAgain(q, p); got != want {
			t.Errorf("Covers(%v, %v): %t, want %t", q, p, got, want)
		}
	})
}

// The words of the document's examples.
func TestExamples(t *testing.T) {
	p, q := []api.Dep{dep("a", 3), dep("b", 1)}, []api.Dep{dep("a", 2), dep("c", 4)}
	m := Merge(p, q)
	if want := []api.Dep{dep("a", 3), dep("b", 1), dep("c", 4)}; !Same(m, want) {
		t.Errorf("Merge((a 3), (b 1); (a 2), (c 4)): %v, want %v", m, want)
	}
	if !Covers(m, p) || !Covers(m, q) {
		t.Errorf("%v does not cover %v and %v", m, p, q)
	}
}
