package table

import (
	"math"
	"math/bits"
	"math/rand/v2"
	"slices"
	"strings"
	"testing"
	"unicode/utf8"

	"archipelago/api"
)

// cut is the ranges between some bounds, the first and the last one without a bound on their outer sides.
func cut(bounds ...string) []api.Range {
	l := make([]api.Range, len(bounds)+1)
	for i, b := range bounds {
		l[i].To, l[i+1].From = b, b
	}
	return l
}

// letters is so many ranges, cut at letters.
func letters(count int) []api.Range { return cut(strings.Split("bcdefghijklmnop", "")[:count-1]...) }

// times is a list of so many equal numbers.
func times(count, n int) []int { return slices.Repeat([]int{n}, count) }

// rowOf is a row of so many ranges and sites, all owned by site 0 alone.
func rowOf(ranges, sites int) api.Row {
	return api.Row{Ranges: letters(ranges), Owners: times(ranges, 1), Parents: times(sites, -1)}
}

// example is the row of the chapter's example, of two sites.
func example() api.Row {
	return api.Row{Ranges: cut("m"), Owners: []int{3, 2}, Parents: []int{-1, 0}}
}

// full is a row of 8 ranges and 6 sites, with every site among the owners.
func full() api.Row {
	return api.Row{Ranges: letters(8), Owners: []int{1, 63, 32, 33, 62, 31, 2, 12}, Parents: []int{5, -1, 0, 1, 2, 4}}
}

// named is a row, and what is particular to it.
type named struct {
	why string
	c   api.Row
}

// right are valid rows: ordinary ones, and those at the edges.
func right() []named {
	long := strings.Repeat("\U0010ffff", 8)
	owned := func(sites int, owners ...int) api.Row {
		return api.Row{Ranges: letters(len(owners)), Owners: owners, Parents: times(sites, -1)}
	}
	parents := func(l ...int) api.Row { return api.Row{Ranges: cut("m"), Owners: []int{1, 1}, Parents: l} }
	return []named{
		{"the chapter's example", example()},
		{"8 ranges, 6 sites", full()},
		{"1 range, 1 site", rowOf(1, 1)},
		{"1 range, 6 sites", rowOf(1, 6)},
		{"8 ranges, 1 site", rowOf(8, 1)},
		{"7 ranges, 5 sites", rowOf(7, 5)},
		{"owners of 1 and of 2^n - 1, of 1 site", owned(1, 1, 1)},
		{"owners of 1 and of 2^n - 1, of 2 sites", owned(2, 1, 3)},
		{"owners of 1 and of 2^n - 1, of 3 sites", owned(3, 7, 1)},
		{"owners of 1 and of 2^n - 1, of 5 sites", owned(5, 31, 1, 31)},
		{"owners of 1 and of 2^n - 1, of 6 sites", owned(6, 1, 63)},
		{"each owner alone", owned(6, 1, 2, 4, 8, 16, 32)},
		// Whether the parents make a tree, or are sites at all, is no matter of ownership.
		{"parents of -1 and of 5", parents(-1, 5)},
		{"a parent of -2", parents(-2)},
		{"a parent of 6", parents(6, 0)},
		{"the least and the greatest parent", parents(math.MinInt, math.MaxInt)},
		{"a site that is its own parent", parents(0)},
		{"parents in a circle", parents(1, 2, 0)},
		{"long bounds", api.Row{Ranges: cut("!", long), Owners: []int{1, 2, 3}, Parents: []int{-1, 0}}},
		{"a bound of two bytes", api.Row{Ranges: cut("é"), Owners: []int{2, 1}, Parents: []int{-1, 0}}},
		{"a bound that begins the next one", api.Row{Ranges: cut("a", "aa"), Owners: []int{2, 1, 2}, Parents: []int{-1, 0}}},
	}
}

// wrong are rows that are not valid, nearly all for one reason alone.
func wrong() []named {
	ranges := func(l ...api.Range) api.Row {
		return api.Row{Ranges: l, Owners: times(len(l), 1), Parents: []int{-1}}
	}
	owners := func(sites int, l ...int) api.Row {
		return api.Row{Ranges: cut("m"), Owners: l, Parents: times(sites, -1)}
	}
	return []named{
		{"the zero row", api.Row{}},
		{"empty lists", api.Row{Ranges: []api.Range{}, Owners: []int{}, Parents: []int{}}},
		{"no range", ranges()},
		{"no range, but an owner", api.Row{Owners: []int{1}, Parents: []int{-1}}},
		{"9 ranges", rowOf(9, 2)},
		{"9 ranges, 8 owners", api.Row{Ranges: letters(9), Owners: times(8, 1), Parents: []int{-1}}},
		{"10 ranges", rowOf(10, 6)},
		{"no site", owners(0, 1, 1)},
		{"no site and owners of 0", owners(0, 0, 0)},
		{"no site and no owner", api.Row{Ranges: cut("m")}},
		{"7 sites", owners(7, 1, 1)},
		{"7 sites, the last one an owner", owners(7, 64, 127)},
		{"8 sites", rowOf(8, 8)},
		{"63 sites", rowOf(1, 63)},
		{"64 sites", rowOf(1, 64)},
		{"65 sites", rowOf(1, 65)},
		{"an owner of 0", owners(2, 0, 1)},
		{"an owner of 0, at the end", owners(2, 1, 0)},
		{"an owner of 0, of 6 sites", owners(6, 63, 0)},
		{"an owner of -1", owners(2, 1, -1)},
		{"an owner of -1, at the front", owners(6, -1, 1)},
		{"an owner of -63", owners(6, 1, -63)},
		{"the least owner", owners(2, math.MinInt, 1)},
		{"the least owner but one", owners(2, math.MinInt+1, 1)},
		{"the greatest owner", owners(6, 1, math.MaxInt)},
		{"an owner of 2^n, of 1 site", owners(1, 2, 1)},
		{"an owner of 2^n, of 1 site, at the end", owners(1, 1, 2)},
		{"an owner of 2^n, of 2 sites", owners(2, 1, 4)},
		{"an owner of 2^n, of 5 sites", owners(5, 1, 32)},
		{"an owner of 2^n, of 6 sites", owners(6, 1, 64)},
		{"an owner of 2^n + 1, of 2 sites", owners(2, 5, 1)},
		{"an owner of 2^n + 1, of 6 sites", owners(6, 1, 65)},
		{"no owner", owners(2)},
		{"one owner less", owners(2, 1)},
		{"one owner more", owners(2, 1, 1, 1)},
		{"one owner more, of 8 ranges", api.Row{Ranges: letters(8), Owners: times(9, 1), Parents: []int{-1}}},
		{"one owner less, of 8 ranges", api.Row{Ranges: letters(8), Owners: times(7, 1), Parents: []int{-1}}},
		{"a first range with a From", ranges(api.Range{From: "a", To: "m"}, api.Range{From: "m"})},
		{"a last range with a To", ranges(api.Range{To: "m"}, api.Range{From: "m", To: "z"})},
		{"one range with a To", ranges(api.Range{To: "m"})},
		{"one range with a From", ranges(api.Range{From: "m"})},
		{"a gap", ranges(api.Range{To: "m"}, api.Range{From: "n"})},
		{"an overlap", ranges(api.Range{To: "m"}, api.Range{From: "l"})},
		{"not in order", ranges(api.Range{From: "m"}, api.Range{To: "m"})},
		{"everything twice", ranges(api.Range{}, api.Range{})},
		{"an end in the middle", ranges(api.Range{To: "m"}, api.Range{From: "m"}, api.Range{From: "m"})},
		{"equal bounds", ranges(cut("m", "m")...)},
		{"falling bounds", ranges(cut("m", "l")...)},
		{"a bound with rune 20", ranges(cut("a b")...)},
		{"a bound of 9 runes", ranges(cut("aaaaaaaaa")...)},
		{"a bound that is not UTF-8", ranges(cut("a\xff")...)},
		{"an empty bound", ranges(cut("")...)},
	}
}

// someKeys are strings at, in front of and behind the bounds of all rows, keys and others.
func someKeys() []string {
	l := []string{"", "\x00", " ", "!", "a b", "\x7f", "\xff", "\xff\xff", "a\xff", "aaaaaaaaa", "\U0010ffff", strings.Repeat("z", 100)}
	for _, b := range strings.Split("abcdefghijklmz", "") {
		l = append(l, b, b+"\x00", b+"!", b+"zzzzzzz", b+"\xff")
	}
	for _, b := range []string{"é", "ê", strings.Repeat("\U0010ffff", 8)} {
		l = append(l, b, b+"!", b[:len(b)-1])
	}
	return l
}

// someSites are sites of rows, and numbers that are none.
func someSites() []int {
	return []int{math.MinInt, math.MinInt + 1, -65, -64, -63, -2, -1, 0, 1, 2, 3, 4, 5, 6, 7, 31, 32, 33, 62, 63, 64, 65, 1 << 32, math.MaxInt - 1, math.MaxInt}
}

// keyAgain says with other means of the library which strings are keys.
func keyAgain(s string) bool {
	n := utf8.RuneCountInString(s)
	return utf8.ValidString(s) && n >= 1 && n <= 8 && !strings.ContainsFunc(s, func(r rune) bool { return r < 0x21 })
}

// wholeAgain builds the only whole list of as many ranges with the same ends, and asks whether l is that list.
func wholeAgain(l []api.Range) bool {
	var bounds []string
	for _, r := range l[:max(len(l)-1, 0)] {
		if !keyAgain(r.To) || len(bounds) > 0 && bounds[len(bounds)-1] >= r.To {
			return false
		}
		bounds = append(bounds, r.To)
	}
	return len(l) > 0 && slices.Equal(l, cut(bounds...))
}

// checkAgain says by another way what Check must answer.
func checkAgain(c api.Row) bool {
	if len(c.Ranges) > 8 || len(c.Parents) == 0 || len(c.Parents) > 6 || len(c.Owners) != len(c.Ranges) {
		return false
	}
	for _, o := range c.Owners {
		if o <= 0 || o > []int{0, 1, 3, 7, 15, 31, 63}[len(c.Parents)] {
			return false
		}
	}
	return wholeAgain(c.Ranges)
}

// table is who owns what, as plain as can be: of each range its bounds and its owners one by one.
type table []struct {
	r     api.Range
	sites [6]bool
}

// tableOf is the table of a valid row, and empty for any other one.
func tableOf(c api.Row) table {
	if !checkAgain(c) {
		return nil
	}
	t := make(table, len(c.Ranges))
	for i, o := range c.Owners {
		t[i].r = c.Ranges[i]
		for s := 0; o > 0; s, o = s+1, o/2 {
			t[i].sites[s] = o%2 == 1
		}
	}
	return t
}

// owners is the owners of a key in increasing order; the last range that begins at or ahead of the key has it.
func (t table) owners(key string) []int {
	var l []int
	for _, x := range t {
		if x.r.From > key {
			break
		}
		l = nil
		for s, is := range x.sites {
			if is {
				l = append(l, s)
			}
		}
	}
	return l
}

// ranges is the ranges of a site.
func (t table) ranges(site int) []api.Range {
	var l []api.Range
	for _, x := range t {
		if site >= 0 && site < 6 && x.sites[site] {
			l = append(l, x.r)
		}
	}
	return l
}

// holds holds every function against the table of the row.
func holds(t *testing.T, why string, c api.Row, some []string, sites []int) {
	t.Helper()
	if got, want := Check(c), checkAgain(c); got != want {
		t.Fatalf("Check, %s, %v: %t, want %t", why, c, got, want)
	}
	if got, want := Sites(c), len(c.Parents); got != want {
		t.Fatalf("Sites, %s, %v: %d, want %d", why, c, got, want)
	}
	same := tableOf(c)
	for _, key := range some {
		holdsKey(t, why, c, key, same.owners(key), sites)
	}
	for _, site := range sites {
		if got, want := Ranges(c, site), same.ranges(site); !slices.Equal(got, want) {
			t.Fatalf("Ranges, %s, %v, site %d: %q, want %q", why, c, site, got, want)
		}
	}
}

// holdsKey holds what is answered of a key against its owners in increasing order.
func holdsKey(t *testing.T, why string, c api.Row, key string, owners, sites []int) {
	t.Helper()
	set, first := 0, -1
	for i, s := range owners {
		set += []int{1, 2, 4, 8, 16, 32}[s]
		if i == 0 {
			first = s
		}
	}
	if got := Owners(c, key); got != set {
		t.Fatalf("Owners, %s, %v, key %q: %d, want %d", why, c, key, got, set)
	}
	if got := First(c, key); got != first {
		t.Fatalf("First, %s, %v, key %q: %d, want %d", why, c, key, got, first)
	}
	for _, s := range sites {
		if got, want := Owns(c, s, key), slices.Contains(owners, s); got != want {
			t.Fatalf("Owns, %s, %v, site %d, key %q: %t, want %t", why, c, s, key, got, want)
		}
	}
}

// P7.1

func TestCheck(t *testing.T) {
	for _, n := range right() {
		if !Check(n.c) || !checkAgain(n.c) {
			t.Errorf("Check, %s, %v: %t, want true", n.why, n.c, Check(n.c))
		}
	}
	for _, n := range wrong() {
		if Check(n.c) || checkAgain(n.c) {
			t.Errorf("Check, %s, %v: %t, want false", n.why, n.c, Check(n.c))
		}
	}
}

func TestCheckOfEveryOwner(t *testing.T) {
	for sites := 1; sites <= 6; sites++ {
		for set := -130; set <= 130; set++ {
			want := set >= 1 && set <= []int{0, 1, 3, 7, 15, 31, 63}[sites]
			for place := range 8 {
				c := rowOf(8, sites)
				c.Owners[place] = set
				if got := Check(c); got != want {
					t.Errorf("Check of %d sites, range %d owned by %d: %t, want %t", sites, place, set, got, want)
				}
			}
		}
	}
}

func TestCheckOfEveryLength(t *testing.T) {
	for ranges := 1; ranges < 12; ranges++ {
		for owners := range 12 {
			for sites := range 12 {
				c := api.Row{Ranges: letters(ranges), Owners: times(owners, 1), Parents: times(sites, -1)}
				want := ranges <= 8 && owners == ranges && sites >= 1 && sites <= 6
				if got := Check(c); got != want {
					t.Errorf("Check of %d ranges, %d owners and %d sites: %t, want %t", ranges, owners, sites, got, want)
				}
			}
		}
	}
}

// The number of sites is the number of Parents, whatever else is wrong with the row.
func TestSites(t *testing.T) {
	for _, c := range []struct {
		c    api.Row
		want int
	}{
		{example(), 2},
		{full(), 6},
		{rowOf(8, 1), 1},
		{rowOf(1, 6), 6},
		{api.Row{}, 0},
		{api.Row{Parents: []int{}}, 0},
		{api.Row{Parents: []int{-1, 0, 0}}, 3},
		{api.Row{Ranges: letters(8), Owners: times(8, 63)}, 0},
		{rowOf(1, 7), 7},
		{rowOf(9, 64), 64},
	} {
		if got := Sites(c.c); got != c.want {
			t.Errorf("Sites(%v): %d, want %d", c.c, got, c.want)
		}
	}
}

func TestOwners(t *testing.T) {
	two, eight := example(), full()
	middle := api.Row{Ranges: cut("b", "é"), Owners: []int{5, 2, 7}, Parents: []int{-1, 0, 0}}
	for _, c := range []struct {
		why         string
		c           api.Row
		key         string
		want, first int
	}{
		{"the example's a", two, "a", 3, 0},
		{"the example's z", two, "z", 2, 1},
		{"at the beginning of a range", two, "m", 2, 1},
		{"just behind the beginning", two, "m!", 2, 1},
		{"just ahead of the end", two, "lzzzzzzz", 3, 0},
		{"at the beginning of the middle range", middle, "b", 2, 1},
		{"in the middle range", middle, "zz", 2, 1},
		{"at the end of the middle range", middle, "é", 7, 0},
		{"ahead of the middle range", middle, "azzzzzzz", 5, 0},
		{"of all, the least key", middle, "!", 5, 0},
		{"of all, the greatest key", middle, strings.Repeat("\U0010ffff", 8), 7, 0},
		// The ranges partition all strings, so that those that are no keys are in one too.
		{"empty", two, "", 3, 0},
		{"rune 20", two, " ", 3, 0},
		{"a zero byte behind the beginning", two, "m\x00", 2, 1},
		{"a space in the middle", two, "m m", 2, 1},
		{"not UTF-8", two, "\xff", 2, 1},
		{"not UTF-8, in the first range", two, "a\xff", 3, 0},
		{"9 runes", two, "aaaaaaaaa", 3, 0},
		{"9 runes, in the last range", two, "zzzzzzzzz", 2, 1},
		{"the first of 8 ranges", eight, "a", 1, 0},
		{"the second of 8 ranges", eight, "b", 63, 0},
		{"the third of 8 ranges", eight, "c", 32, 5},
		{"the fourth of 8 ranges", eight, "d", 33, 0},
		{"the fifth of 8 ranges", eight, "e", 62, 1},
		{"the sixth of 8 ranges", eight, "f", 31, 0},
		{"the seventh of 8 ranges", eight, "g", 2, 1},
		{"the last of 8 ranges", eight, "h", 12, 2},
		{"the only range", rowOf(1, 1), "a", 1, 0},
		{"the only range, empty", rowOf(1, 1), "", 1, 0},
	} {
		if got := Owners(c.c, c.key); got != c.want {
			t.Errorf("Owners, %s, %q: %d, want %d", c.why, c.key, got, c.want)
		}
		if got := First(c.c, c.key); got != c.first {
			t.Errorf("First, %s, %q: %d, want %d", c.why, c.key, got, c.first)
		}
	}
}

func TestOwns(t *testing.T) {
	two, three := example(), api.Row{Ranges: cut("m"), Owners: []int{5, 7}, Parents: []int{-1, 0, 0}}
	for _, c := range []struct {
		why  string
		c    api.Row
		site int
		key  string
		want bool
	}{
		{"both of two", two, 0, "a", true},
		{"both of two", two, 1, "a", true},
		{"the second of two", two, 0, "z", false},
		{"the second of two", two, 1, "z", true},
		{"the beginning of a range", two, 0, "m", false},
		{"the end of a range", two, 0, "lzzzzzzz", true},
		{"empty", two, 0, "", true},
		{"not UTF-8", two, 0, "\xff", false},
		{"not UTF-8", two, 1, "\xff", true},
		{"the first of three", three, 0, "a", true},
		{"not the second of three", three, 1, "a", false},
		{"the last of three", three, 2, "a", true},
		{"site -1", three, -1, "z", false},
		{"site n", three, 3, "z", false},
		{"site n of two", two, 2, "z", false},
		{"site 6", three, 6, "z", false},
		{"site 5 of six", rowOf(1, 6), 5, "a", false},
		{"site 5 of six", full(), 5, "b", true},
		{"site 6 of six", full(), 6, "b", false},
		{"site 63 of six", full(), 63, "b", false},
		{"site 64 of six", full(), 64, "b", false},
		{"the least site", full(), math.MinInt, "b", false},
		{"the greatest site", full(), math.MaxInt, "b", false},
		{"site -64, which is 0 modulo 64", full(), -64, "b", false},
	} {
		if got := Owns(c.c, c.site, c.key); got != c.want {
			t.Errorf("Owns, %s, site %d, %q: %t, want %t", c.why, c.site, c.key, got, c.want)
		}
	}
}

func TestRanges(t *testing.T) {
	two, three := example(), api.Row{Ranges: cut("m", "t"), Owners: []int{5, 2, 7}, Parents: []int{-1, 0, 0}}
	for _, c := range []struct {
		why  string
		c    api.Row
		site int
		want []api.Range
	}{
		{"the first of the example", two, 0, []api.Range{{To: "m"}}},
		{"the second of the example", two, 1, []api.Range{{To: "m"}, {From: "m"}}},
		{"ranges that do not touch", three, 0, []api.Range{{To: "m"}, {From: "t"}}},
		// Ranges that touch stay two.
		{"ranges that touch", three, 1, []api.Range{{From: "m", To: "t"}, {From: "t"}}},
		{"everything", rowOf(1, 6), 0, []api.Range{{}}},
		{"everything in 8 ranges", rowOf(8, 6), 0, letters(8)},
		{"a site that owns nothing", rowOf(8, 6), 5, nil},
		{"the last of six sites", full(), 5, []api.Range{{From: "b", To: "c"}, {From: "c", To: "d"}, {From: "d", To: "e"}, {From: "e", To: "f"}}},
		{"site -1", three, -1, nil},
		{"site n", three, 3, nil},
		{"site 6", full(), 6, nil},
		{"site 63", full(), 63, nil},
		{"site 64", full(), 64, nil},
		{"the least site", full(), math.MinInt, nil},
		{"the greatest site", full(), math.MaxInt, nil},
	} {
		if got := Ranges(c.c, c.site); !slices.Equal(got, c.want) {
			t.Errorf("Ranges, %s, site %d: %q, want %q", c.why, c.site, got, c.want)
		}
	}
}

func TestMany(t *testing.T) {
	for _, c := range []struct{ mask, want int }{
		{math.MinInt, 0},
		{math.MinInt + 1, 0},
		{-64, 0},
		{-2, 0},
		{-1, 0},
		{0, 0},
		{1, 1},
		{2, 1},
		{3, 2},
		{5, 2},
		{32, 1},
		{62, 5},
		{63, 6},
		{64, 1},
		{127, 7},
		{1 << 40, 1},
		{1<<40 + 1, 2},
		{math.MaxInt - 1, bits.UintSize - 2},
		{math.MaxInt, bits.UintSize - 1},
		{math.MaxInt/2 + 1, 1},
	} {
		if got := Many(c.mask); got != c.want {
			t.Errorf("Many(%d): %d, want %d", c.mask, got, c.want)
		}
	}
}

func TestManyOfManyMasks(t *testing.T) {
	held := func(mask int) {
		want := 0
		if mask >= 0 {
			want = bits.OnesCount(uint(mask))
		}
		if got := Many(mask); got != want {
			t.Fatalf("Many(%d): %d, want %d", mask, got, want)
		}
	}
	for mask := -1 << 12; mask <= 1<<12; mask++ {
		held(mask)
	}
	for low := range bits.UintSize {
		for high := range bits.UintSize {
			held(int(uint(1)<<low | uint(1)<<high))
			held(int(^uint(0) >> low << high))
		}
	}
	r := rand.New(rand.NewPCG(7, 1))
	for range 100000 {
		held(int(r.Uint64()))
	}
}

func TestRowsThatAreNotValid(t *testing.T) {
	for _, n := range wrong() {
		for _, key := range someKeys() {
			if got := Owners(n.c, key); got != 0 {
				t.Errorf("Owners, %s, %q: %d, want 0", n.why, key, got)
			}
			if got := First(n.c, key); got != -1 {
				t.Errorf("First, %s, %q: %d, want -1", n.why, key, got)
			}
			for _, site := range someSites() {
				if Owns(n.c, site, key) {
					t.Errorf("Owns, %s, site %d, %q: true, want false", n.why, site, key)
				}
			}
		}
		for _, site := range someSites() {
			if got := Ranges(n.c, site); len(got) != 0 {
				t.Errorf("Ranges, %s, site %d: %q, want none", n.why, site, got)
			}
		}
		if got, want := Sites(n.c), len(n.c.Parents); got != want {
			t.Errorf("Sites, %s: %d, want %d", n.why, got, want)
		}
	}
}

func TestRowsAtTheEdges(t *testing.T) {
	for _, n := range slices.Concat(right(), wrong()) {
		holds(t, n.why, n.c, someKeys(), someSites())
	}
}

// Every row of at most three ranges and three sites with owners from -1 to 8 and some ranges that are not whole.
func TestEverySmallRow(t *testing.T) {
	lists := [][]api.Range{
		nil, cut(), cut("b"), cut("b", "m"), cut("m", "b"), cut("b", "b"), cut("é"), cut("a b"),
		{{To: "b"}}, {{From: "b"}}, {{To: "b"}, {From: "c"}}, {{From: "b"}, {To: "b"}}, {{}, {}},
	}
	some := []string{"", "!", "a", "b", "bzz", "m", "é", "\xff"}
	sites := []int{-1, 0, 1, 2, 3, 4, 6}
	var grow func(owners []int)
	grow = func(owners []int) {
		for _, l := range lists {
			if len(l)-len(owners) > 1 || len(owners)-len(l) > 1 {
				continue
			}
			for parents := range 4 {
				holds(t, "a small row", api.Row{Ranges: l, Owners: owners, Parents: times(parents, -1)}, some, sites)
			}
		}
		if len(owners) == 3 {
			return
		}
		for set := -1; set <= 8; set++ {
			grow(append(owners[:len(owners):len(owners)], set))
		}
	}
	grow(nil)
}

// someRow is a row of up to 9 ranges and up to 7 sites, most often a valid one.
func someRow(r *rand.Rand) api.Row {
	all := strings.Split("bcdefghijklm", "")
	var bounds []string
	for _, i := range r.Perm(len(all))[:r.IntN(9)] {
		bounds = append(bounds, all[i])
	}
	slices.Sort(bounds)
	c := api.Row{Ranges: cut(bounds...), Owners: make([]int, len(bounds)+1), Parents: times(1+r.IntN(7), -1)}
	for i := range c.Owners {
		c.Owners[i] = 1 + r.IntN(1<<len(c.Parents)-1)
	}
	switch at := r.IntN(len(c.Ranges)); r.IntN(20) {
	case 0:
		c.Ranges[at].From = "c"
	case 1:
		c.Ranges[at].To = "c"
	case 2:
		c.Owners = append(c.Owners, 1)
	case 3:
		c.Owners = c.Owners[1:]
	case 4:
		c.Owners[at] = 0
	case 5:
		c.Owners[at] = 1 << len(c.Parents)
	case 6:
		c.Owners[at] = -c.Owners[at]
	}
	return c
}

func TestGeneratedRows(t *testing.T) {
	r := rand.New(rand.NewPCG(7, 2))
	valid := 0
	for range 5000 {
		c := someRow(r)
		holds(t, "a generated row", c, someKeys(), []int{-1, 0, 1, 2, 3, 4, 5, 6, 7, 64})
		if Check(c) {
			valid++
		}
	}
	if valid < 2000 {
		t.Errorf("only %d of the generated rows are valid", valid)
	}
}

// P7.2

// belongs tells of a key that no site owns, or of which the functions do not tell the same.
func belongs(t *testing.T, c api.Row, key string) {
	t.Helper()
	n, first := 0, -1
	for site := Sites(c) - 1; site >= 0; site-- {
		in := slices.ContainsFunc(Ranges(c, site), func(r api.Range) bool { return key >= r.From && (r.To == "" || key < r.To) })
		if owns := Owns(c, site, key); owns != in {
			t.Fatalf("%v, key %q, site %d: Owns %t, but in its ranges %t", c, key, site, owns, in)
		}
		if in {
			n, first = n+1, site
		}
	}
	if n == 0 || Many(Owners(c, key)) != n || First(c, key) != first {
		t.Fatalf("%v, key %q: %d owners from %d, Owners %d, First %d", c, key, n, first, Owners(c, key), First(c, key))
	}
}

func TestEveryKeyIsOwned(t *testing.T) {
	rows := []api.Row{}
	for _, n := range right() {
		rows = append(rows, n.c)
	}
	r := rand.New(rand.NewPCG(7, 3))
	for range 2000 {
		if c := someRow(r); Check(c) {
			rows = append(rows, c)
		}
	}
	for _, c := range rows {
		for _, key := range someKeys() {
			belongs(t, c, key)
		}
	}
}

// R3

func TestNothingIsChanged(t *testing.T) {
	for _, n := range slices.Concat(right(), wrong()) {
		// Room behind the lists: nothing is written there either.
		c := api.Row{Ranges: append(n.c.Ranges, api.Range{From: "x"}), Owners: append(n.c.Owners, 9), Parents: append(n.c.Parents, 9)}
		had := api.Row{Ranges: slices.Clone(c.Ranges), Owners: slices.Clone(c.Owners), Parents: slices.Clone(c.Parents)}
		holds(t, n.why, api.Row{Ranges: c.Ranges[:len(n.c.Ranges)], Owners: c.Owners[:len(n.c.Owners)], Parents: c.Parents[:len(n.c.Parents)]}, someKeys(), someSites())
		if !slices.Equal(c.Ranges, had.Ranges) || !slices.Equal(c.Owners, had.Owners) || !slices.Equal(c.Parents, had.Parents) {
			t.Errorf("%s: the row was changed from %v to %v", n.why, had, c)
		}
	}
}

func TestRangesSharesNothing(t *testing.T) {
	for _, c := range []api.Row{rowOf(1, 1), rowOf(8, 1), example(), full()} {
		for site := range Sites(c) {
			had, want := slices.Clone(c.Ranges), slices.Clone(Ranges(c, site))
			one, two := Ranges(c, site), Ranges(c, site)
			clear(one[:cap(one)])
			if !slices.Equal(c.Ranges, had) || !slices.Equal(two, want) || !slices.Equal(Ranges(c, site), want) {
				t.Errorf("Ranges, site %d: a change of the answer is seen in %v or %v", site, c, two)
			}
		}
	}
	c := rowOf(2, 1)
	l := Ranges(c, 0)
	c.Ranges[0].To, c.Ranges[1].From = "z", "z"
	if !slices.Equal(l, cut("b")) {
		t.Errorf("Ranges: a change of the row is seen in the answer: %q", l)
	}
}

// P1 and R5
func TestLargeRows(t *testing.T) {
	const count = 1 << 20
	long := strings.Repeat("a", count)
	for _, n := range []named{
		{"many ranges", api.Row{Ranges: make([]api.Range, count), Owners: times(count, 1), Parents: []int{-1}}},
		{"many owners", api.Row{Ranges: cut("m"), Owners: times(count, 1), Parents: []int{-1}}},
		{"many sites", api.Row{Ranges: cut("m"), Owners: []int{1, 1}, Parents: times(count, 0)}},
		{"a long bound", api.Row{Ranges: cut(long), Owners: []int{1, 1}, Parents: []int{-1}}},
	} {
		if Check(n.c) || Sites(n.c) != len(n.c.Parents) || Owners(n.c, "a") != 0 || Owns(n.c, 0, "a") || len(Ranges(n.c, 0)) != 0 || First(n.c, "a") != -1 {
			t.Errorf("%s: %t, %d, %d, %t, %d, %d", n.why, Check(n.c), Sites(n.c), Owners(n.c, "a"), Owns(n.c, 0, "a"), len(Ranges(n.c, 0)), First(n.c, "a"))
		}
	}
	holds(t, "a long key", full(), []string{long, "z" + long, long + "\xff"}, someSites())
}

func FuzzTable(f *testing.F) {
	f.Add("m", "m", 3, 2, 2, 0, "a")
	f.Add("m", "n", 3, 2, 2, 1, "z")
	f.Add("\xff", "\xff", 63, 64, 6, -1, "")
	f.Add("é", "é", 1, 1, 7, 6, "\xff")
	f.Fuzz(func(t *testing.T, to, from string, first, second, sites, site int, key string) {
		c := api.Row{Ranges: []api.Range{{To: to}, {From: from}}, Owners: []int{first, second}, Parents: times(min(max(sites, 0), 100), -1)}
		holds(t, "a row", c, []string{key, to, from, to + key}, []int{site, 0, 5, 6})
		if Check(c) {
			belongs(t, c, key)
		}
		if got, want := Many(first), bits.OnesCount(uint(max(first, 0))); got != want {
			t.Errorf("Many(%d): %d, want %d", first, got, want)
		}
	})
}

// The words of the document's examples.
func TestExamples(t *testing.T) {
	c := api.Row{Ranges: []api.Range{{To: "m"}, {From: "m"}}, Owners: []int{3, 2}, Parents: []int{-1, 0}}
	if !Check(c) || Sites(c) != 2 || !Owns(c, 0, "a") || !Owns(c, 1, "a") || Many(Owners(c, "a")) != 2 {
		t.Errorf("a is owned by %d, want by sites 0 and 1", Owners(c, "a"))
	}
	if Owns(c, 0, "z") || !Owns(c, 1, "z") || Many(Owners(c, "z")) != 1 {
		t.Errorf("z is owned by %d, want by site 1", Owners(c, "z"))
	}
}
