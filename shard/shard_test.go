package shard

import (
	"fmt"
	"math"
	"math/rand/v2"
	"slices"
	"strings"
	"testing"
	"unicode/utf8"

	"archipelago/api"
)

// at is a timestamp.
func at(n, site int) api.Stamp { return api.Stamp{N: n, Site: site} }

// write is a version of a key, with a value and a past by which it is told from others.
func write(key string, s api.Stamp) api.Version {
	return api.Version{
		Key: key, Value: fmt.Sprint(s.N, " of ", s.Site), Stamp: s,
		Past: []api.Dep{{Key: "b", Stamp: at(s.N&63+1, 0)}, {Key: "c", Stamp: at(1, s.Site&3)}},
	}
}

// of is versions of a key that site 1 wrote.
func of(key string, numbers ...int) []api.Version {
	var l []api.Version
	for _, n := range numbers {
		l = append(l, write(key, at(n, 1)))
	}
	return l
}

// deps is dependencies on a key that site 1 wrote.
func deps(key string, numbers ...int) []api.Dep {
	var l []api.Dep
	for _, n := range numbers {
		l = append(l, api.Dep{Key: key, Stamp: at(n, 1)})
	}
	return l
}

// bounded is the range from a key up to another one.
func bounded(from, to string) api.Range { return api.Range{From: from, To: to} }

// everything is the range that contains all keys, on its own.
func everything() []api.Range { return []api.Range{{}} }

// longPast is a past of so many keys, valid but for its length.
func longPast(count int) []api.Dep {
	var p []api.Dep
	for i := range count {
		p = append(p, api.Dep{Key: fmt.Sprintf("k%02d", i), Stamp: at(i+1, i%api.MaxSites)})
	}
	return p
}

// wrong are versions of a key at 5 of site 1, or nearly so, which are not valid.
func wrong(key string) []api.Version {
	set := func(change func(*api.Version)) api.Version {
		v := write(key, at(5, 1))
		change(&v)
		return v
	}
	return []api.Version{
		set(func(v *api.Version) { v.Stamp = api.Stamp{} }),
		set(func(v *api.Version) { v.Stamp.N = 0 }),
		set(func(v *api.Version) { v.Stamp.N = -5 }),
		set(func(v *api.Version) { v.Stamp.N = 1<<40 + 1 }),
		set(func(v *api.Version) { v.Stamp.N = math.MaxInt }),
		set(func(v *api.Version) { v.Stamp.N = math.MinInt }),
		set(func(v *api.Version) { v.Stamp.Site = 6 }),
		set(func(v *api.Version) { v.Stamp.Site = -1 }),
		set(func(v *api.Version) { v.Value = strings.Repeat("v", 33) }),
		set(func(v *api.Version) { v.Gone = true }),
		set(func(v *api.Version) { v.Past = longPast(25) }),
		set(func(v *api.Version) { v.Past[0].Key = "d" }),
		set(func(v *api.Version) { v.Past[0].Key = "b b" }),
		set(func(v *api.Version) { v.Past[1].Stamp.N = 0 }),
	}
}

// wrongKeys are keys that are not valid.
func wrongKeys() []string {
	return []string{"", " ", "a b", "aaaaaaaaa", "a\xff", "\xff", "\x00", strings.Repeat("m", 1<<12)}
}

// probes are keys on both sides of the bounds that the tests use, at them and between them, and some that are not valid.
func probes() []string {
	return append([]string{"!", "B", "a", "a!", "aa", "b", "b!", "bz", "c", "cc", "d", "d!", "m", "z", "\u00e9", "\U0010ffff"}, wrongKeys()...)
}

// around are timestamps at, beside and between those of the tests, and some that are not valid.
func around() []api.Stamp {
	return []api.Stamp{
		at(1, 0), at(1, 1), at(2, 1), at(3, 0), at(3, 1), at(3, 2), at(4, 1), at(5, 1), at(6, 0), at(7, 1), at(7, 5), at(9, 0), at(1<<40, 5),
		{}, at(0, 5), at(3, -1), at(3, 6), at(-1, 0), at(1<<40+1, 0), at(math.MinInt, math.MaxInt), at(math.MaxInt, math.MinInt),
	}
}

// What the chapters say, by other means than the program's.

func greater(a, b api.Stamp) bool { return a.N > b.N || a.N == b.N && a.Site > b.Site }

func within(l []api.Range, key string) bool {
	for _, r := range l {
		if strings.Compare(r.From, key) <= 0 && (len(r.To) == 0 || strings.Compare(key, r.To) < 0) {
			return true
		}
	}
	return false
}

func keyAgain(s string) bool {
	n := utf8.RuneCountInString(s)
	low := func(r rune) bool { return r < 0x21 }
	return utf8.ValidString(s) && n >= 1 && n <= 8 && !strings.ContainsFunc(s, low)
}

func stampAgain(s api.Stamp) bool { return 1 <= s.N && s.N <= 1<<40 && 0 <= s.Site && s.Site <= 5 }

func validAgain(v api.Version) bool {
	for i, d := range v.Past {
		if !keyAgain(d.Key) || !stampAgain(d.Stamp) || i > 0 && v.Past[i-1].Key >= d.Key {
			return false
		}
	}
	return keyAgain(v.Key) && stampAgain(v.Stamp) && len(v.Past) <= 24 && len(v.Value) <= 32 && !(v.Gone && len(v.Value) > 0)
}

func sameVersion(a, b api.Version) bool {
	return a.Key == b.Key && a.Value == b.Value && a.Gone == b.Gone && a.Stamp == b.Stamp && slices.Equal(a.Past, b.Past)
}

func sameList(a, b []api.Version) bool { return slices.EqualFunc(a, b, sameVersion) }

// heap is what a shard is to be: its ranges, and all versions in the order in which they were put.
type heap struct {
	ranges []api.Range
	all    []api.Version
}

func (h *heap) put(v api.Version) bool {
	taken := func(x api.Version) bool { return x.Key == v.Key && x.Stamp == v.Stamp }
	if !within(h.ranges, v.Key) || !validAgain(v) || slices.ContainsFunc(h.all, taken) {
		return false
	}
	h.all = append(h.all, v)
	return true
}

func (h *heap) chain(key string) []api.Version {
	var l []api.Version
	for _, v := range h.all {
		if v.Key == key {
			l = append(l, v)
		}
	}
	slices.SortFunc(l, func(a, b api.Version) int {
		if greater(a.Stamp, b.Stamp) {
			return 1
		}
		return -1
	})
	return l
}

func (h *heap) keys() []string {
	var l []string
	for _, v := range h.all {
		l = append(l, v.Key)
	}
	slices.Sort(l)
	return slices.Compact(l)
}

// clean drops what is neither pinned nor late, and has a later version of its key that is not later than stable, or that is the last one.
func (h *heap) clean(stable api.Stamp, pins []api.Dep) {
	var kept []api.Version
	for _, v := range h.all {
		l := h.chain(v.Key)
		after := func(x api.Version) bool { return greater(x.Stamp, v.Stamp) && !greater(x.Stamp, stable) }
		last := l[len(l)-1].Stamp == v.Stamp
		pinned := slices.Contains(pins, api.Dep{Key: v.Key, Stamp: v.Stamp})
		late := !greater(stable, v.Stamp)
		if last || pinned || late || !slices.ContainsFunc(l, after) {
			kept = append(kept, v)
		}
	}
	h.all = kept
}

func (h *heap) move(l []api.Range) {
	h.ranges = slices.Clone(l)
	h.all = slices.DeleteFunc(slices.Clone(h.all), func(v api.Version) bool { return !within(l, v.Key) })
}

// gives tells of an answer that is not the version at an index of the list, or none where the index is below 0.
func gives(t *testing.T, why string, l []api.Version, want int, v api.Version, ok bool) {
	t.Helper()
	if want < 0 {
		if ok || !sameVersion(v, api.Version{}) || v.Past != nil {
			t.Fatalf("%s of %v: %v, %t, want the zero version, false", why, l, v, ok)
		}
		return
	}
	if !ok || !sameVersion(v, l[want]) {
		t.Fatalf("%s of %v: %v, %t, want %v, true", why, l, v, ok, l[want])
	}
}

// holds asks a shard for all that it tells, and holds it against what it is to be; P13.3 among it.
func holds(t *testing.T, why string, s *Shard, h *heap, asked []string, stamps []api.Stamp) {
	t.Helper()
	if got := s.Ranges(); !slices.Equal(got, h.ranges) {
		t.Fatalf("%s: ranges %v, want %v", why, got, h.ranges)
	}
	want := h.keys()
	if got := s.Keys(); !slices.Equal(got, want) {
		t.Fatalf("%s: keys %q, want %q", why, got, want)
	}
	var have []api.Dep
	for _, key := range want {
		l := h.chain(key)
		have = append(have, api.Dep{Key: key, Stamp: l[len(l)-1].Stamp})
		if !within(s.Ranges(), key) {
			t.Fatalf("%s: key %q is in none of the ranges %v", why, key, s.Ranges())
		}
	}
	if got := s.Have(); !slices.Equal(got, have) {
		t.Fatalf("%s: have %v, want %v", why, got, have)
	}
	for _, key := range append(asked, want...) {
		l := h.chain(key)
		if got := s.Chain(key); !sameList(got, l) {
			t.Fatalf("%s: the chain of %q is %v, want %v", why, key, got, l)
		}
		v, ok := s.Head(key)
		gives(t, why+": Head", l, len(l)-1, v, ok)
		for _, x := range stamps {
			v, ok = s.At(key, x)
			gives(t, why+": At", l, slices.IndexFunc(l, func(v api.Version) bool { return v.Stamp == x }), v, ok)
		}
	}
}

// tells holds a shard against what it is to be, asked for all probes.
func tells(t *testing.T, why string, s *Shard, h *heap) {
	t.Helper()
	holds(t, why, s, h, probes(), around())
}

// puts puts a version into a shard and into what it is to be.
func puts(t *testing.T, s *Shard, h *heap, v api.Version) {
	t.Helper()
	if got, want := s.Put(v), h.put(v); got != want {
		t.Fatalf("Put of %v into the keys %q in the ranges %v: %t, want %t", v, h.keys(), h.ranges, got, want)
	}
}

// filled is a shard with ranges and versions, and what it is to be.
func filled(t *testing.T, l []api.Range, lists ...[]api.Version) (*Shard, *heap) {
	t.Helper()
	s, h := New(l), &heap{ranges: slices.Clone(l)}
	for _, v := range slices.Concat(lists...) {
		puts(t, s, h, v)
	}
	return s, h
}

// orders is all orders of the elements of l.
func orders[T any](l []T) [][]T {
	if len(l) == 0 {
		return [][]T{nil}
	}
	var all [][]T
	for i, x := range l {
		for _, rest := range orders(slices.Concat(l[:i], l[i+1:])) {
			all = append(all, append(rest, x))
		}
	}
	return all
}

// subsets is all lists out of l, each element at most once, in order.
func subsets[T any](l []T) [][]T {
	all := [][]T{nil}
	for _, x := range l {
		for _, s := range all {
			all = append(all, append(slices.Clone(s), x))
		}
	}
	return all
}

// lists is all lists of at most so many out of l, in any order and any number of times.
func lists[T any](l []T, most int) [][]T {
	all := [][]T{nil}
	for from := 0; most > 0; most-- {
		grown := len(all)
		for _, s := range all[from:grown] {
			for _, x := range l {
				all = append(all, append(slices.Clone(s), x))
			}
		}
		from = grown
	}
	return all
}

// someRanges are ranges of all kinds: open on a side, on both, bounded, and such that are not valid.
func someRanges() []api.Range {
	return []api.Range{
		bounded("", ""), bounded("", "b"), bounded("b", "d"), bounded("c", ""), bounded("cc", "m"),
		bounded("d", "b"), bounded("b", "b"), bounded("a b", "\xff"),
	}
}

// The chapter's example.

func TestExample(t *testing.T) {
	s := New([]api.Range{{To: "m"}})
	if !s.Put(write("a", at(1, 0))) {
		t.Error("Put of a version of a: false, want true")
	}
	if s.Put(write("z", at(1, 0))) {
		t.Error("Put of a version of z: true, want false")
	}
}

// A nil *Shard and a zero Shard.

func TestNilShard(t *testing.T) {
	var s *Shard
	all := slices.Concat(of("a", 1, 3), of("z", 2), wrong("a"), []api.Version{{}})
	for range 2 {
		for _, v := range all {
			if s.Put(v) {
				t.Errorf("Put of %v into nil: true, want false", v)
			}
		}
		tells(t, "nil", s, &heap{})
		s.Clean(at(5, 1), deps("a", 1))
		s.Clean(api.Stamp{}, nil)
		s.Move(everything())
		s.Move(nil)
		tells(t, "nil, moved", s, &heap{})
	}
}

func TestZeroShard(t *testing.T) {
	var s Shard
	h := &heap{}
	tells(t, "a zero Shard", &s, h)
	for _, v := range slices.Concat(of("a", 1), of("\U0010ffff", 1), wrong("a"), []api.Version{{}}) {
		puts(t, &s, h, v)
	}
	s.Clean(at(5, 1), deps("a", 1))
	s.Clean(api.Stamp{}, nil)
	tells(t, "a zero Shard, cleaned", &s, h)
	s.Move(nil)
	h.move(nil)
	tells(t, "a zero Shard, moved to nothing", &s, h)
	if s.Put(of("a", 1)[0]) {
		t.Error("Put into a zero Shard: true, want false")
	}
	s.Move([]api.Range{{To: "m"}})
	h.move([]api.Range{{To: "m"}})
	tells(t, "a zero Shard, moved", &s, h)
	for _, v := range slices.Concat(of("b", 3, 1), of("a", 2, 2), of("z", 1)) {
		puts(t, &s, h, v)
	}
	tells(t, "a zero Shard, filled", &s, h)
	if got := s.Have(); !slices.Equal(got, append(deps("a", 2), deps("b", 3)...)) {
		t.Errorf("a zero Shard, filled: have %v", got)
	}
}

func TestShardsAreApart(t *testing.T) {
	var zero Shard
	zero.Move(everything())
	one, two := New(everything()), New(everything())
	for _, s := range []*Shard{one, &zero} {
		s.Put(of("a", 1)[0])
	}
	one.Clean(at(9, 1), nil)
	one.Move([]api.Range{{To: "m"}})
	tells(t, "a shard beside others", two, &heap{ranges: everything()})
	if !two.Put(of("a", 1)[0]) || !two.Put(of("z", 1)[0]) {
		t.Error("what is put into a shard hangs on another one")
	}
	tells(t, "a shard beside others", &zero, &heap{ranges: everything(), all: of("a", 1)})
}

// P13.1

func TestNewGivesAnEmptyShard(t *testing.T) {
	for _, l := range [][]api.Range{nil, {}, everything(), {{To: "m"}}, {{From: "d", To: "b"}}, someRanges()} {
		s := New(l)
		if s == nil {
			t.Fatalf("New(%v): nil", l)
		}
		tells(t, "a new shard", s, &heap{ranges: l})
	}
}

func TestPutIntoRanges(t *testing.T) {
	for _, c := range []struct {
		why     string
		l       []api.Range
		in, out []string
	}{
		{"no list", nil, nil, []string{"a", "m", "\U0010ffff", ""}},
		{"no ranges", []api.Range{}, nil, []string{"a", "m", "\U0010ffff", ""}},
		{"all keys", everything(), []string{"!", "a", "zzzzzzzz", "\U0010ffff"}, []string{"", "a b", "aaaaaaaaa"}},
		{"no beginning", []api.Range{bounded("", "m")}, []string{"!", "a", "lzzzzzzz", "l\U0010ffff"}, []string{"m", "m!", "z"}},
		{"no end", []api.Range{bounded("m", "")}, []string{"m", "m!", "z", "\U0010ffff"}, []string{"!", "a", "lzzzzzzz"}},
		{"bounded", []api.Range{bounded("b", "d")}, []string{"b", "b!", "bz", "c", "cc", "czzzzzzz"}, []string{"a", "azzzzzzz", "d", "d!", "B", "e"}},
		{"two that touch", []api.Range{bounded("b", "c"), bounded("c", "d")}, []string{"b", "bz", "c", "cc"}, []string{"a", "d"}},
		{"two that touch, in the wrong order", []api.Range{bounded("c", "d"), bounded("b", "c")}, []string{"b", "bz", "c", "cc"}, []string{"a", "d"}},
		{"two that overlap", []api.Range{bounded("a", "c"), bounded("b", "d")}, []string{"a", "aa", "b", "bz", "c", "cc"}, []string{"B", "d"}},
		{"two with a gap", []api.Range{bounded("a", "b"), bounded("c", "d")}, []string{"a", "aa", "c", "cc"}, []string{"b", "bz", "d"}},
		{"one within another", []api.Range{bounded("b", "c"), bounded("a", "m")}, []string{"a", "b", "c", "d", "l"}, []string{"B", "m", "z"}},
		{"one twice", []api.Range{bounded("b", "c"), bounded("b", "c")}, []string{"b", "bz"}, []string{"a", "c"}},
		{"one that ends ahead of its beginning", []api.Range{bounded("d", "b")}, nil, []string{"a", "b", "c", "d", "z"}},
		{"one that ends at its beginning", []api.Range{bounded("b", "b")}, nil, []string{"a", "b", "b!", "c"}},
		{"one with wrong bounds", []api.Range{bounded("a b", "c\xff")}, []string{"a!", "aa", "b", "c", "cc"}, []string{"a", "d"}},
		{"one that is not valid among others", []api.Range{bounded("d", "b"), bounded("m", ""), bounded("a", "a")}, []string{"m", "z"}, []string{"a", "b", "c", "d"}},
	} {
		s, h := filled(t, c.l)
		for _, key := range c.in {
			if !s.Put(write(key, at(3, 1))) {
				t.Errorf("%s: Put of %q: false, want true", c.why, key)
			}
			h.put(write(key, at(3, 1)))
		}
		for _, key := range c.out {
			if s.Put(write(key, at(3, 1))) {
				t.Errorf("%s: Put of %q: true, want false", c.why, key)
			}
		}
		tells(t, c.why, s, h)
	}
}

func TestPutIntoAnyRanges(t *testing.T) {
	for _, l := range lists(someRanges(), 3) {
		s, h := filled(t, l)
		for _, key := range probes() {
			puts(t, s, h, write(key, at(3, 1)))
		}
		holds(t, "any ranges", s, h, probes(), []api.Stamp{at(3, 1)})
	}
}

func TestPutIntoAChain(t *testing.T) {
	for _, c := range []struct {
		why   string
		put   []api.Version
		taken bool
		want  []api.Version
	}{
		{"ahead of all", of("a", 3, 5, 7, 1), true, of("a", 1, 3, 5, 7)},
		{"between the first two", of("a", 3, 5, 7, 4), true, of("a", 3, 4, 5, 7)},
		{"between the last two", of("a", 3, 5, 7, 6), true, of("a", 3, 5, 6, 7)},
		{"behind all", of("a", 3, 5, 7, 9), true, of("a", 3, 5, 7, 9)},
		{"the first one again", of("a", 3, 5, 7, 3), false, of("a", 3, 5, 7)},
		{"the middle one again", of("a", 3, 5, 7, 5), false, of("a", 3, 5, 7)},
		{"the last one again", of("a", 3, 5, 7, 7), false, of("a", 3, 5, 7)},
		{"the last one's timestamp, with another value", append(of("a", 3, 7), api.Version{Key: "a", Stamp: at(7, 1)}), false, of("a", 3, 7)},
		{"the last one's timestamp, gone", append(of("a", 3, 7), api.Version{Key: "a", Gone: true, Stamp: at(7, 1)}), false, of("a", 3, 7)},
		{"the last one's number, a greater site", append(of("a", 3, 7), write("a", at(7, 2))), true, append(of("a", 3, 7), write("a", at(7, 2)))},
		{"the first one's number, a less site", append(of("a", 3, 7), write("a", at(3, 0))), true, append([]api.Version{write("a", at(3, 0))}, of("a", 3, 7)...)},
		{"the same timestamp under another key", append(of("b", 3), of("a", 3)...), true, of("a", 3)},
		{"one that is gone", []api.Version{{Key: "a", Gone: true, Stamp: at(4, 1)}}, true, []api.Version{{Key: "a", Gone: true, Stamp: at(4, 1)}}},
		{"the greatest past and value", []api.Version{{Key: "a", Value: strings.Repeat("v", 32), Stamp: at(4, 1), Past: longPast(24)}}, true, []api.Version{{Key: "a", Value: strings.Repeat("v", 32), Stamp: at(4, 1), Past: longPast(24)}}},
		{"a past of its own key", []api.Version{{Key: "a", Stamp: at(4, 1), Past: deps("a", 9)}}, true, []api.Version{{Key: "a", Stamp: at(4, 1), Past: deps("a", 9)}}},
	} {
		end := len(c.put) - 1
		s, h := filled(t, everything(), c.put[:end])
		if got := s.Put(c.put[end]); got != c.taken {
			t.Errorf("Put, %s: %t, want %t", c.why, got, c.taken)
		}
		if got := s.Chain("a"); !sameList(got, c.want) {
			t.Errorf("Put, %s: the chain is %v, want %v", c.why, got, c.want)
		}
		h.put(c.put[end])
		tells(t, c.why, s, h)
	}
}

func TestPutOfWhatIsNotValid(t *testing.T) {
	for _, before := range [][]api.Version{nil, of("a", 3), of("a", 1, 5, 7), append(of("a", 9), of("b", 5)...)} {
		s, h := filled(t, everything(), before)
		for _, v := range slices.Concat(wrong("a"), wrong("c"), []api.Version{{}, {Key: "a"}, {Stamp: at(5, 1)}}) {
			if s.Put(v) {
				t.Errorf("Put of %v: true, want false", v)
			}
		}
		for _, key := range wrongKeys() {
			if s.Put(write(key, at(5, 1))) {
				t.Errorf("Put of key %q: true, want false", key)
			}
		}
		tells(t, "nothing is to be changed", s, h)
	}
}

func TestPutInEveryOrder(t *testing.T) {
	all := append(of("b", 1, 3, 7), write("b", at(3, 2)), write("a", at(3, 2)), write("cc", at(1, 0)))
	for _, order := range orders(all) {
		s, h := filled(t, []api.Range{bounded("", "c"), bounded("cc", "")})
		for i, v := range order {
			puts(t, s, h, v)
			puts(t, s, h, order[i/2])
			puts(t, s, h, write("c", v.Stamp))
			holds(t, "some order", s, h, []string{"a", "b", "c", "cc"}, nil)
		}
		tells(t, "some order", s, h)
		want := append(of("b", 1, 3), write("b", at(3, 2)), write("b", at(7, 1)))
		if got := s.Chain("b"); !sameList(got, want) {
			t.Fatalf("after %v, the chain of b is %v", order, got)
		}
		have := []api.Dep{{Key: "a", Stamp: at(3, 2)}, {Key: "b", Stamp: at(7, 1)}, {Key: "cc", Stamp: at(1, 0)}}
		if got := s.Have(); !slices.Equal(got, have) {
			t.Fatalf("after %v, have is %v", order, got)
		}
	}
}

func TestQueries(t *testing.T) {
	s, h := filled(t, []api.Range{{To: "m"}}, of("b", 4, 2), of("a", 9), of("z", 1))
	tells(t, "a small shard", s, h)
	b := of("b", 2, 4)
	none := func(why string, v api.Version, ok bool) {
		t.Helper()
		gives(t, why, nil, -1, v, ok)
	}
	v, ok := s.Head("b")
	gives(t, "Head", b, 1, v, ok)
	for n, want := range map[int]int{1: -1, 2: 0, 3: -1, 4: 1, 5: -1, 9: -1} {
		v, ok = s.At("b", at(n, 1))
		gives(t, "At", b, want, v, ok)
	}
	v, ok = s.At("b", at(4, 0))
	none("At another site's timestamp", v, ok)
	v, ok = s.At("b", api.Stamp{})
	none("At the zero timestamp", v, ok)
	for _, key := range []string{"aa", "c", "z", "", "b!", "B"} {
		v, ok = s.Head(key)
		none("Head of "+key, v, ok)
		v, ok = s.At(key, at(2, 1))
		none("At of "+key, v, ok)
		if l := s.Chain(key); len(l) > 0 {
			t.Errorf("Chain of %q: %v, want none", key, l)
		}
	}
	if l := s.Chain("b"); !sameList(l, b) {
		t.Errorf("Chain: %v, want %v", l, b)
	}
	// What is asked for must not be there afterwards.
	if got := s.Keys(); !slices.Equal(got, []string{"a", "b"}) {
		t.Errorf("Keys: %q, want a, b", got)
	}
}

func TestKeysAreInTheOrderOfTheirBytes(t *testing.T) {
	want := []string{"!", "10", "9", "A", "Z", "a", "a!", "aa", "b", "z", "zz", "\u00e9", "\u20ac", "\uffff", "\U0001f600"}
	r := rand.New(rand.NewPCG(13, 1))
	for range 20 {
		s, h := filled(t, everything())
		for _, i := range r.Perm(len(want)) {
			puts(t, s, h, write(want[i], at(i+1, 0)))
			puts(t, s, h, write(want[i], at(1, 2)))
		}
		if got := s.Keys(); !slices.Equal(got, want) {
			t.Fatalf("Keys: %q, want %q", got, want)
		}
		for i, d := range s.Have() {
			if d.Key != want[i] || i > 0 && d.Stamp != at(i+1, 0) || i == 0 && d.Stamp != at(1, 2) {
				t.Fatalf("Have: %v at %d", d, i)
			}
		}
		tells(t, "many keys", s, h)
	}
}

// P13.2: Clean

func TestClean(t *testing.T) {
	a, b := of("a", 1, 3, 4, 7), of("b", 2, 3, 6)
	for _, c := range []struct {
		why         string
		stable      api.Stamp
		pins        []api.Dep
		wantA, want []int
	}{
		{"the zero timestamp", api.Stamp{}, nil, []int{1, 3, 4, 7}, []int{2, 3, 6}},
		{"below both chains", at(1, 0), nil, []int{1, 3, 4, 7}, []int{2, 3, 6}},
		{"at the first version of one", at(1, 1), nil, []int{1, 3, 4, 7}, []int{2, 3, 6}},
		{"at the first version of the other one", at(2, 1), nil, []int{1, 3, 4, 7}, []int{2, 3, 6}},
		{"at a timestamp of both", at(3, 1), nil, []int{3, 4, 7}, []int{3, 6}},
		{"right below a timestamp of both", at(3, 0), nil, []int{1, 3, 4, 7}, []int{2, 3, 6}},
		{"right above a timestamp of both", at(3, 2), nil, []int{3, 4, 7}, []int{3, 6}},
		{"within both chains", at(5, 1), nil, []int{4, 7}, []int{3, 6}},
		{"above one chain", at(6, 5), nil, []int{4, 7}, []int{6}},
		{"above both chains", at(9, 1), nil, []int{7}, []int{6}},
		{"the greatest number", at(math.MaxInt, 0), nil, []int{7}, []int{6}},
		{"the least number", at(math.MinInt, 0), nil, []int{1, 3, 4, 7}, []int{2, 3, 6}},
		{"an empty list of pins", at(9, 1), []api.Dep{}, []int{7}, []int{6}},
		{"one pin", at(9, 1), deps("a", 3), []int{3, 7}, []int{6}},
		{"one pin of the other key", at(9, 1), deps("b", 3), []int{7}, []int{3, 6}},
		{"several pins of one key", at(9, 1), deps("a", 1, 4), []int{1, 4, 7}, []int{6}},
		{"several pins of one key, in no order", at(9, 1), deps("a", 4, 9, 3, 1, 3), []int{1, 3, 4, 7}, []int{6}},
		{"pins of both keys by turns", at(9, 1), slices.Concat(deps("a", 1), deps("b", 2), deps("a", 4), deps("b", 3)), []int{1, 4, 7}, []int{2, 3, 6}},
		{"a pin that is the other key's", at(9, 1), deps("b", 1, 4, 7), []int{7}, []int{6}},
		{"pins of keys without versions", at(9, 1), append(deps("c", 1, 3), deps("", 1, 3)...), []int{7}, []int{6}},
		{"pins of keys out of the ranges", at(9, 1), deps("z", 1, 3), []int{7}, []int{6}},
		{"pins of keys that begin alike", at(9, 1), append(deps("aa", 1, 3), deps("A", 3)...), []int{7}, []int{6}},
		{"pins of timestamps that are not there", at(9, 1), deps("a", 2, 5, 6, 9), []int{7}, []int{6}},
		{"pins of other sites", at(9, 1), []api.Dep{{Key: "a", Stamp: at(3, 0)}, {Key: "b", Stamp: at(3, 2)}}, []int{7}, []int{6}},
		{"pins that are not valid", at(9, 1), []api.Dep{{}, {Key: "a"}, {Key: "a", Stamp: at(-3, 1)}, {Key: "b", Stamp: at(3, -1)}}, []int{7}, []int{6}},
		{"pins of what is retained anyway", at(5, 1), append(deps("a", 4, 7), deps("b", 6)...), []int{4, 7}, []int{3, 6}},
	} {
		s, h := filled(t, []api.Range{{To: "m"}}, a, b, of("d", 5))
		s.Clean(c.stable, c.pins)
		h.clean(c.stable, c.pins)
		for key, want := range map[string][]api.Version{"a": of("a", c.wantA...), "b": of("b", c.want...), "d": of("d", 5)} {
			if got := s.Chain(key); !sameList(got, want) {
				t.Errorf("Clean, %s: the chain of %s is %v, want %v", c.why, key, got, want)
			}
		}
		tells(t, "Clean, "+c.why, s, h)
		s.Clean(c.stable, c.pins)
		tells(t, "Clean a second time, "+c.why, s, h)
	}
}

func TestCleanOfNothing(t *testing.T) {
	for _, l := range [][]api.Range{nil, everything(), {{From: "d", To: "b"}}} {
		s, h := filled(t, l)
		for _, stable := range around() {
			s.Clean(stable, nil)
			s.Clean(stable, append(deps("a", 1, 3), deps("", 0)...))
			tells(t, "an empty shard, cleaned", s, h)
		}
	}
}

// Every pair of chains of a few timestamps, every stable timestamp around them, every set of some pins.
func TestCleanOfAllSmallShards(t *testing.T) {
	pins := subsets(slices.Concat(deps("a", 1, 4), deps("b", 3), deps("c", 3, 4)))
	chains := subsets([]api.Stamp{at(1, 1), at(3, 1), at(4, 1), at(7, 5)})
	writes := func(key string, stamps []api.Stamp) []api.Version {
		var l []api.Version
		for _, x := range stamps {
			l = append(l, write(key, x))
		}
		return l
	}
	for _, a := range chains {
		for _, b := range chains {
			for _, stable := range around() {
				for _, p := range pins {
					s, h := filled(t, everything(), writes("a", a), writes("b", b))
					s.Clean(stable, p)
					h.clean(stable, p)
					holds(t, fmt.Sprint("Clean at ", stable, " with ", p), s, h, []string{"c"}, nil)
				}
			}
		}
	}
}

func TestPutAfterClean(t *testing.T) {
	s, h := filled(t, everything(), of("a", 1, 3, 4, 7), of("b", 2))
	s.Clean(at(5, 1), deps("a", 1))
	h.clean(at(5, 1), deps("a", 1))
	// What was removed is no longer there, so that it may come again; what was retained may not.
	for _, c := range []struct {
		v    api.Version
		want bool
	}{
		{of("a", 1)[0], false}, {of("a", 4)[0], false}, {of("a", 7)[0], false}, {of("b", 2)[0], false},
		{of("a", 3)[0], true}, {of("a", 8)[0], true}, {of("a", 2)[0], true}, {of("b", 1)[0], true}, {of("c", 1)[0], true},
	} {
		if got := s.Put(c.v); got != c.want {
			t.Errorf("Put of %v after Clean: %t, want %t", c.v, got, c.want)
		}
		h.put(c.v)
		tells(t, "Put after Clean", s, h)
	}
}

// Nobody needs what was removed any more, so it takes no room.
func TestCleanLeavesNoRoom(t *testing.T) {
	s := New(everything())
	for n := range 1000 {
		s.Put(write("a", at(n+1, 1)))
	}
	s.Clean(at(5000, 0), nil)
	if got := cap(s.chains["a"]); got > 8 {
		t.Errorf("one version of 1000 is retained, in a list with room for %d", got)
	}
}

// T5: a shard that is cleaned by turns has the same heads as one that is never cleaned, and all pinned versions.
func TestCleanedShardsTellTheSame(t *testing.T) {
	r := rand.New(rand.NewPCG(13, 2))
	names := []string{"a", "b", "cc", "z"}
	for range 200 {
		whole, cleaned := New(everything()), New(everything())
		var stable api.Stamp
		var pins []api.Dep
		for range 80 {
			if v := write(names[r.IntN(4)], at(stable.N+1+r.IntN(12), r.IntN(6))); whole.Put(v) != cleaned.Put(v) {
				t.Fatalf("Put of %v hangs on Clean", v)
			}
			if r.IntN(4) == 0 {
				stable = at(stable.N+r.IntN(4), r.IntN(6))
				if v, ok := cleaned.Head(names[r.IntN(4)]); ok {
					pins = append(pins, api.Dep{Key: v.Key, Stamp: v.Stamp})
				}
				cleaned.Clean(stable, pins)
			}
			if a, b := whole.Have(), cleaned.Have(); !slices.Equal(a, b) {
				t.Fatalf("have is %v where it was cleaned, and %v where it was not", b, a)
			}
			for _, d := range pins {
				v, _ := whole.At(d.Key, d.Stamp)
				if x, ok := cleaned.At(d.Key, d.Stamp); !ok || !sameVersion(x, v) {
					t.Fatalf("the pinned version %v is %v where it was cleaned", v, x)
				}
			}
		}
	}
}

// P13.2: Move

func TestMove(t *testing.T) {
	for _, c := range []struct {
		why  string
		to   []api.Range
		want []string
	}{
		{"the same range", []api.Range{{To: "m"}}, []string{"a", "b", "c", "d"}},
		{"all keys", everything(), []string{"a", "b", "c", "d"}},
		{"exactly these keys", []api.Range{bounded("a", "d!")}, []string{"a", "b", "c", "d"}},
		{"several that contain all", []api.Range{bounded("c", ""), bounded("", "b!")}, []string{"a", "b", "c", "d"}},
		{"some, the lower ones", []api.Range{bounded("", "c")}, []string{"a", "b"}},
		{"some, the upper ones", []api.Range{bounded("c", "")}, []string{"c", "d"}},
		{"some in the middle", []api.Range{bounded("b", "d")}, []string{"b", "c"}},
		{"some on both sides", []api.Range{bounded("", "b"), bounded("d", "")}, []string{"a", "d"}},
		{"ranges that overlap", []api.Range{bounded("b", "d"), bounded("c", "m")}, []string{"b", "c", "d"}},
		{"one key", []api.Range{bounded("b", "b!")}, []string{"b"}},
		{"no keys, above", []api.Range{bounded("m", "")}, nil},
		{"no keys, below", []api.Range{bounded("", "a")}, nil},
		{"no keys, between two of them", []api.Range{bounded("b!", "c")}, nil},
		{"nothing", []api.Range{}, nil},
		{"no list", nil, nil},
		{"one that is not valid", []api.Range{bounded("d", "a")}, nil},
		{"one that is not valid among others", []api.Range{bounded("d", "a"), bounded("c", "d"), bounded("b", "b")}, []string{"c"}},
	} {
		s, h := filled(t, []api.Range{{To: "m"}}, of("a", 1, 3), of("b", 2), of("c", 7, 4), of("d", 1, 2, 3))
		s.Move(c.to)
		h.move(c.to)
		if got := s.Keys(); !slices.Equal(got, c.want) {
			t.Errorf("Move to %s: keys %q, want %q", c.why, got, c.want)
		}
		tells(t, "Move to "+c.why, s, h)
		for _, key := range probes() {
			puts(t, s, h, write(key, at(1, 1)))
			puts(t, s, h, write(key, at(9, 2)))
		}
		tells(t, "Put after Move to "+c.why, s, h)
		s.Clean(at(5, 0), deps("d", 2))
		h.clean(at(5, 0), deps("d", 2))
		tells(t, "Clean after Move to "+c.why, s, h)
	}
}

func TestMoveBackAgain(t *testing.T) {
	all := slices.Concat(of("a", 1, 3), of("b", 2), of("c", 4, 7))
	s, h := filled(t, []api.Range{{To: "m"}}, all)
	for _, l := range [][]api.Range{{bounded("b", "")}, {{To: "m"}}, nil, {{To: "m"}}, everything()} {
		s.Move(l)
		h.move(l)
		tells(t, "moved to and fro", s, h)
	}
	if l := s.Keys(); len(l) > 0 {
		t.Errorf("after a move to nothing and back: keys %q, want none", l)
	}
	// Nothing is left of what was there, so all of it may come again.
	for _, v := range all {
		if !s.Put(v) {
			t.Errorf("Put of %v after a move to nothing and back: false, want true", v)
		}
		h.put(v)
	}
	tells(t, "filled again", s, h)
}

// From every list of up to two ranges to every other one.
func TestMoveBetweenAnyRanges(t *testing.T) {
	all := []string{"!", "a", "b", "bz", "c", "cc", "d", "m", "\U0010ffff"}
	few := lists(someRanges(), 2)
	for _, from := range few {
		for _, to := range few {
			s, h := filled(t, from)
			for i, key := range all {
				puts(t, s, h, write(key, at(i+1, 1)))
			}
			s.Move(to)
			h.move(to)
			for i, key := range all {
				puts(t, s, h, write(key, at(i+1, 1)))
				puts(t, s, h, write(key, at(9-i, 0)))
			}
			holds(t, fmt.Sprint("Move from ", from, " to ", to), s, h, all, nil)
		}
	}
}

// P13.3, and all of it: whatever is called, in whatever order.
func TestAnyCalls(t *testing.T) {
	r := rand.New(rand.NewPCG(13, 3))
	ranges := lists(someRanges(), 2)
	names := []string{"a", "b", "bz", "c", "d", "z", "", "a b"}
	for range 600 {
		l := ranges[r.IntN(len(ranges))]
		s, h := filled(t, l)
		for range 60 {
			stamp := at(r.IntN(12), r.IntN(7))
			var pins []api.Dep
			for range r.IntN(5) {
				pins = append(pins, api.Dep{Key: names[r.IntN(8)], Stamp: at(r.IntN(12), r.IntN(6))})
			}
			switch r.IntN(10) {
			case 0:
				s.Clean(stamp, pins)
				h.clean(stamp, pins)
			case 1:
				l = ranges[r.IntN(len(ranges))]
				s.Move(l)
				h.move(l)
			default:
				puts(t, s, h, write(names[r.IntN(8)], stamp))
			}
			holds(t, "any calls", s, h, names, []api.Stamp{stamp})
		}
	}
}

// R4: the same calls, the same results, whatever the order of the map is.
func TestSameCallsSameResults(t *testing.T) {
	run := func() string {
		s := New(everything())
		for i := range 64 {
			s.Put(write(fmt.Sprint("k", i*37%64), at(i+1, i%6)))
			s.Put(write(fmt.Sprint("k", i%16), at(i+100, i%6)))
		}
		s.Clean(at(140, 0), deps("k3", 103))
		s.Move([]api.Range{bounded("k2", "k5"), bounded("k60", "")})
		return fmt.Sprint(s.Keys(), s.Have(), s.Chain("k3"), s.Ranges())
	}
	first := run()
	for range 50 {
		if again := run(); again != first {
			t.Fatalf("%s, and then %s", first, again)
		}
	}
}

// R3: what is handed in is neither changed nor kept, and what is handed out is the caller's.

func TestListsThatAreHandedInAreNotKept(t *testing.T) {
	given := func() []api.Range { return []api.Range{bounded("", "b"), bounded("c", ""), bounded("x", "y")} }
	for name, give := range map[string]func(l []api.Range) *Shard{
		"New": New,
		"Move": func(l []api.Range) *Shard {
			s := &Shard{}
			s.Move(l)
			return s
		},
	} {
		l := given()
		s, h := give(l[:2]), &heap{ranges: given()[:2]}
		if !slices.Equal(l, given()) {
			t.Errorf("%s changed its list to %v", name, l)
		}
		for i := range l {
			l[i] = api.Range{}
		}
		tells(t, name+", its list changed afterwards", s, h)
		for _, key := range probes() {
			puts(t, s, h, write(key, at(1, 1)))
		}
		tells(t, name+", its list changed afterwards", s, h)
	}
}

func TestPinsAreNotKept(t *testing.T) {
	s, h := filled(t, everything(), of("a", 1, 3, 4, 7), of("b", 2, 3))
	given := func() []api.Dep { return slices.Concat(deps("b", 2), deps("a", 4, 1), deps("a", 3)) }
	pins := given()
	s.Clean(at(9, 1), pins[:3])
	h.clean(at(9, 1), given()[:3])
	if !slices.Equal(pins, given()) {
		t.Errorf("Clean changed its pins to %v", pins)
	}
	clear(pins)
	tells(t, "Clean, its pins changed afterwards", s, h)
	s.Clean(at(9, 1), nil)
	h.clean(at(9, 1), nil)
	tells(t, "Clean without the pins", s, h)
}

func TestListsThatAreHandedOutAreTheCallers(t *testing.T) {
	s, h := filled(t, []api.Range{bounded("", "m"), bounded("z", "")}, of("a", 1, 3, 4, 7), of("b", 2), of("z", 5, 6))
	spoil := func(why string) {
		t.Helper()
		chain, names, have, ranges := s.Chain("a"), s.Keys(), s.Have(), s.Ranges()
		_ = append(chain, of("x", 1)...)
		_ = append(ranges, api.Range{})
		clear(chain[:cap(chain)])
		clear(names[:cap(names)])
		clear(have[:cap(have)])
		clear(ranges[:cap(ranges)])
		v, _ := s.Head("b")
		v.Key, v.Value, v.Stamp, v.Past = "x", "x", at(99, 0), nil
		w, _ := s.At("a", at(3, 1))
		w.Key, w.Stamp.N, w.Past = "x", 99, nil
		tells(t, why, s, h)
	}
	spoil("its answers changed")
	s.Clean(at(5, 1), deps("a", 1))
	h.clean(at(5, 1), deps("a", 1))
	spoil("cleaned, its answers changed")
	s.Move([]api.Range{bounded("a", "m"), bounded("b", "")})
	h.move([]api.Range{bounded("a", "m"), bounded("b", "")})
	spoil("moved, its answers changed")
}

// What was handed out stays as it was, whatever comes afterwards.
func TestAnswersStayAsTheyWere(t *testing.T) {
	s, _ := filled(t, []api.Range{bounded("", "m"), bounded("z", "")}, of("a", 1, 3, 4, 7), of("b", 2), of("z", 5, 6))
	chain, names, have, ranges := s.Chain("a"), s.Keys(), s.Have(), s.Ranges()
	same := func(why string) {
		t.Helper()
		if !sameList(chain, of("a", 1, 3, 4, 7)) || !slices.Equal(names, []string{"a", "b", "z"}) {
			t.Errorf("after %s: Chain and Keys have become %v and %q", why, chain, names)
		}
		if !slices.Equal(have, slices.Concat(deps("a", 7), deps("b", 2), deps("z", 6))) {
			t.Errorf("after %s: Have has become %v", why, have)
		}
		if !slices.Equal(ranges, []api.Range{bounded("", "m"), bounded("z", "")}) {
			t.Errorf("after %s: Ranges has become %v", why, ranges)
		}
	}
	for _, v := range slices.Concat(of("a", 2, 5, 6, 8, 9), of("b", 1, 3), of("c", 1)) {
		s.Put(v)
	}
	same("Put")
	s.Clean(at(8, 0), deps("a", 1))
	same("Clean")
	s.Move([]api.Range{bounded("b", "c")})
	same("Move")
	s.Move(nil)
	same("Move to nothing")
}

// R5: nothing has a limit, and the time goes with the sizes.

func TestManyKeysAndPins(t *testing.T) {
	const count = 1 << 15
	s := New([]api.Range{{To: "m"}, {From: "m"}})
	var pins []api.Dep
	for i := range count {
		key := fmt.Sprintf("k%06d", i)
		for n := range 3 {
			if !s.Put(write(key, at(n+1, i%api.MaxSites))) {
				t.Fatalf("Put of version %d of %s: false, want true", n, key)
			}
		}
		for n := range 4 {
			pins = append(pins, api.Dep{Key: key, Stamp: at(n*n, i%api.MaxSites)})
		}
	}
	slices.Reverse(pins)
	s.Clean(at(9, 0), pins)
	for i, d := range s.Have() {
		if d != (api.Dep{Key: fmt.Sprintf("k%06d", i), Stamp: at(3, i%api.MaxSites)}) || len(s.Chain(d.Key)) != 2 {
			t.Fatalf("after Clean there is %v at %d, with %v", d, i, s.Chain(d.Key))
		}
	}
	s.Move([]api.Range{bounded("k000010", "k000020"), bounded("k03", "k030005")})
	if got := s.Keys(); len(got) != 15 || got[0] != "k000010" || got[14] != "k030004" {
		t.Fatalf("after Move there are %q", got)
	}
}

func TestLongChainsAndManyRanges(t *testing.T) {
	const count = 1 << 11
	var l []api.Range
	for i := range count {
		l = append(l, bounded(fmt.Sprintf("k%05d", i), fmt.Sprintf("k%05d", i+1)))
	}
	slices.Reverse(l)
	s := New(l)
	for i := range count {
		if !s.Put(write("k00000", at(2*i+2, 1))) || !s.Put(write(fmt.Sprintf("k%05d", i), at(1, 2))) {
			t.Fatalf("Put of version %d: false, want true", i)
		}
	}
	if s.Put(write(fmt.Sprintf("k%05d", count), at(1, 2))) || len(s.Keys()) != count || len(s.Ranges()) != count {
		t.Errorf("%d ranges go wrong", count)
	}
	if v, ok := s.At("k00000", at(count, 1)); !ok || v.Stamp.N != count || len(s.Chain("k00000")) != count+1 {
		t.Errorf("a chain of %d versions goes wrong: %v, %t", count+1, v, ok)
	}
	s.Clean(at(count, 1), nil)
	if got := s.Chain("k00000"); len(got) != count/2+1 || got[0].Stamp.N != count {
		t.Errorf("of %d versions there are %d from their middle on", count+1, len(got))
	}
	s.Move(l[:count/2])
	if got := s.Keys(); len(got) != count/2 || got[0] != fmt.Sprintf("k%05d", count/2) {
		t.Errorf("of %d keys there are %d in half of the ranges", count, len(got))
	}
}

// What is told where it goes wrong are lengths alone, as all else is long.
func TestLargeInputsThatAreNotValid(t *testing.T) {
	const count = 1 << 17
	long := strings.Repeat("a", count)
	huge := api.Version{Key: long, Value: long, Gone: true, Stamp: at(3, 1), Past: make([]api.Dep, count)}
	s := New(append(slices.Repeat([]api.Range{bounded(long, long[1:])}, count), api.Range{}))
	for _, v := range of("a", 1, 3) {
		if !s.Put(v) {
			t.Errorf("Put into %d ranges: false, want true", count+1)
		}
	}
	if s.Put(huge) || len(s.Ranges()) != count+1 {
		t.Error("Put of a huge version: true, want false")
	}
	s.Clean(at(9, 0), slices.Repeat([]api.Dep{{Key: long, Stamp: at(1, 1)}}, count))
	if got := s.Chain("a"); !sameList(got, of("a", 3)) {
		t.Errorf("Clean with %d pins of no key that is there: %v are retained", count, got)
	}
	s.Move([]api.Range{bounded(long, "")})
	if _, ok := s.Head(long); ok || s.Put(huge) || len(s.Keys()) > 0 || len(s.Chain(long)) > 0 {
		t.Error("a key that is too long has a version")
	}
}

// FuzzShard reads calls from bytes: two of them are a call and what it is given.
func FuzzShard(f *testing.F) {
	f.Add("\x00\x10\x01\x12\x02\x34\x0e\x40\x00\x05", "\x10\x31", byte(3))
	f.Add("\x00\x1a\x04\x1a\x0f\x02\x00\x1a\x0f\x01\x05\x2c", "\x1a\x2c\x3e", byte(0x21))
	f.Add("\x0f\x00\x00\x01\x0f\x09\x0e\xff", "", byte(0))
	names := []string{"a", "b", "bz", "c", "d", "z", "", "a b"}
	ranges := lists(someRanges(), 2)
	f.Fuzz(func(t *testing.T, calls, held string, first byte) {
		s, h := filled(t, ranges[int(first)%len(ranges)])
		var pins []api.Dep
		for _, b := range []byte(held) {
			pins = append(pins, api.Dep{Key: names[b%8], Stamp: at(int(b/8%12), int(b%7))})
		}
		for ; len(calls) >= 2; calls = calls[2:] {
			stamp := at(int(calls[1]/7%16), int(calls[1]%7))
			switch calls[0] % 16 {
			case 14:
				s.Clean(stamp, pins)
				h.clean(stamp, pins)
			case 15:
				l := ranges[int(calls[1])%len(ranges)]
				s.Move(l)
				h.move(l)
			default:
				puts(t, s, h, write(names[calls[0]%8], stamp))
			}
			holds(t, "some calls", s, h, names, append(around(), stamp))
		}
	})
}
