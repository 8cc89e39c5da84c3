package route

import (
	"math"
	"math/rand/v2"
	"slices"
	"strings"
	"testing"

	"archipelago/api"
	"archipelago/table"
	"archipelago/tree"
)

// cut is the ranges between some bounds, the first and the last one without a bound on their outer sides.
func cut(bounds ...string) []api.Range {
	l := make([]api.Range, len(bounds)+1)
	for i, b := range bounds {
		l[i].To, l[i+1].From = b, b
	}
	return l
}

// rowOf is a row of these parents, with as many ranges as owners: the first one has "a", the next one "b", and so on.
func rowOf(parents []int, owners ...int) api.Row {
	return api.Row{Ranges: cut(strings.Split("bcdefghijklmnop", "")[:len(owners)-1]...), Owners: owners, Parents: parents}
}

// chain is the row of the chapter's example: a chain of three sites, of which the last one owns everything.
func chain() api.Row { return rowOf([]int{-1, 0, 1}, 4) }

// six is a row of six sites in a tree with its root in the middle of the list: 0 and 4 below 3, 1 and 5 below 0, 2 below 5.
// Site 0 owns "a"; all own "b"; 2 owns "c"; 1 and 4 own "d"; 2 and 5 own "e"; 3 owns "f"; 0 and 4 own "g"; 1 owns "h".
func six() api.Row { return rowOf([]int{3, 0, 5, -1, 3, 0}, 1, 63, 4, 18, 36, 8, 17, 2) }

// fork is a row in which the sites at the same distance from site 0 are not reached in the order of their numbers: 4 and 5 below 1, 3 below 2. All own "a", 3 and 4 own "b", 5 and 2 own "c".
func fork() api.Row { return rowOf([]int{-1, 0, 0, 2, 1, 1}, 63, 24, 36) }

// one is a row of one site.
func one() api.Row { return rowOf([]int{-1}, 1, 1) }

// named is a row, and what is particular to it.
type named struct {
	why string
	c   api.Row
}

// right are valid rows: ordinary ones, and those at the edges.
func right() []named {
	return []named{
		{"the chapter's example", chain()},
		{"six sites, 8 ranges", six()},
		{"a fork", fork()},
		{"one site", one()},
		{"one site, one range", rowOf([]int{-1}, 1)},
		{"two sites", rowOf([]int{-1, 0}, 1, 2, 3)},
		{"two sites, the root last", rowOf([]int{1, -1}, 1, 2, 3)},
		{"a chain out of order", rowOf([]int{4, 3, -1, 2, 1, 0}, 32, 4, 36, 1, 2)},
		{"a chain of six, its ends as owners", rowOf([]int{-1, 0, 1, 2, 3, 4}, 33, 1, 32)},
		{"a star", rowOf([]int{-1, 0, 0, 0, 0, 0}, 62, 1, 32, 2)},
		{"a star whose middle is not the root", rowOf([]int{2, 2, 4, 2, -1, 2}, 51, 4, 16, 1)},
		{"8 ranges of the same owner", rowOf([]int{-1, 0, 0, 1}, 8, 8, 8, 8, 8, 8, 8, 8)},
		{"a bound of two bytes", api.Row{Ranges: cut("é"), Owners: []int{2, 1}, Parents: []int{-1, 0}}},
		{"long bounds", api.Row{Ranges: cut("!", strings.Repeat("\U0010ffff", 8)), Owners: []int{1, 4, 2}, Parents: []int{2, 0, -1}}},
	}
}

// noTree are rows whose table is valid, but whose parents are not.
func noTree() []named {
	return []named{
		{"one site that is its own parent", rowOf([]int{0}, 1)},
		{"a parent of n, of one site", rowOf([]int{1}, 1)},
		{"a parent of -2, of one site", rowOf([]int{-2}, 1)},
		{"no root", rowOf([]int{1, 2, 0}, 1, 7)},
		{"two roots", rowOf([]int{-1, -1}, 3, 2)},
		{"two roots, apart", rowOf([]int{-1, 0, 0, -1, 3, 3}, 63, 32)},
		{"two that go round, beside a root", rowOf([]int{-1, 2, 1}, 7, 4)},
		{"a site that is its own parent, beside a tree", rowOf([]int{-1, 0, 1, 3}, 15, 8)},
		{"a parent of n", rowOf([]int{-1, 0, 3}, 7, 4)},
		{"a parent of -2", rowOf([]int{-1, 0, -2}, 7, 4)},
		{"the greatest parent", rowOf([]int{-1, math.MaxInt}, 3, 2)},
		{"the least parent", rowOf([]int{math.MinInt, -1}, 3, 2)},
	}
}

// noTable are rows whose parents are valid, but whose table is not.
func noTable() []named {
	p := []int{-1, 0, 1}
	return []named{
		{"no range", api.Row{Parents: p}},
		{"no range, but an owner", api.Row{Owners: []int{4}, Parents: p}},
		{"a range, but no owner", api.Row{Ranges: cut(), Parents: p}},
		{"9 ranges", rowOf(p, 4, 4, 4, 4, 4, 4, 4, 4, 4)},
		{"one owner less", api.Row{Ranges: cut("b"), Owners: []int{4}, Parents: p}},
		{"one owner more", api.Row{Ranges: cut("b"), Owners: []int{4, 4, 4}, Parents: p}},
		{"an owner of 0", rowOf(p, 4, 0)},
		{"an owner of 2^n", rowOf(p, 4, 8)},
		{"an owner of -1", rowOf(p, -1, 4)},
		{"an owner of 2^n, of one site", rowOf([]int{-1}, 2)},
		{"the least owner", rowOf(p, math.MinInt, 4)},
		{"the greatest owner", rowOf(p, 4, math.MaxInt)},
		{"a gap", api.Row{Ranges: []api.Range{{To: "m"}, {From: "n"}}, Owners: []int{4, 4}, Parents: p}},
		{"an overlap", api.Row{Ranges: []api.Range{{To: "m"}, {From: "l"}}, Owners: []int{4, 4}, Parents: p}},
		{"not in order", api.Row{Ranges: []api.Range{{From: "m"}, {To: "m"}}, Owners: []int{4, 4}, Parents: p}},
		{"everything twice", api.Row{Ranges: []api.Range{{}, {}}, Owners: []int{4, 4}, Parents: p}},
		{"an end", api.Row{Ranges: []api.Range{{To: "m"}}, Owners: []int{4}, Parents: p}},
		{"a bound that is no key", api.Row{Ranges: cut("a b"), Owners: []int{4, 4}, Parents: p}},
	}
}

// wrong are rows that are not valid: for the table alone, for the parents alone, and for both.
func wrong() []named {
	return slices.Concat(noTree(), noTable(), []named{
		{"the zero row", api.Row{}},
		{"empty lists", api.Row{Ranges: []api.Range{}, Owners: []int{}, Parents: []int{}}},
		{"no site", rowOf(nil, 1)},
		{"7 sites", rowOf([]int{-1, 0, 0, 0, 0, 0, 0}, 1, 64)},
		{"65 sites", rowOf(append([]int{-1}, make([]int, 64)...), 1)},
		{"two roots and an owner of 0", rowOf([]int{-1, -1}, 0)},
	})
}

// noSites are numbers that are sites of no row.
func noSites() []int {
	return []int{math.MinInt, math.MinInt + 1, -1 << 32, -65, -64, -63, -2, -1, 6, 7, 31, 32, 62, 63, 64, 65, 1 << 32, math.MaxInt - 1, math.MaxInt}
}

// someSites are sites of rows, and numbers that are none.
func someSites() []int { return append(noSites(), 0, 1, 2, 3, 4, 5) }

// wrongKeys are strings that are no keys, each with what is the same to the ranges of one letter.
func wrongKeys() map[string]string {
	return map[string]string{
		"":                       "a",
		" ":                      "a",
		"a\x00":                  "a",
		"a\xff":                  "a",
		"b b":                    "b",
		"ccccccccc":              "c",
		"\xff":                   "z",
		"z\xc3":                  "z",
		strings.Repeat("z", 100): "z",
	}
}

// someKeys are strings at, in front of and behind the bounds of all rows, keys and others.
func someKeys() []string {
	l := []string{"!", "a!", "azzzzzzz", "é", "è", "\U0010ffff", strings.Repeat("\U0010ffff", 8)}
	for key := range wrongKeys() {
		l = append(l, key)
	}
	return append(l, strings.Split("abcdefghijklmz", "")...)
}

// apart stands for sites between which no path is.
const apart = 1000

// world is what a row says, reckoned by another way: how many steps it is from site to site, and who owns which range.
type world struct {
	far    [][]int
	ranges []api.Range
	owners [][]int
}

// worldOf is the world of a valid row, and an empty one for any other row.
func worldOf(c api.Row) world {
	if !table.Check(c) || !tree.Check(c.Parents) {
		return world{}
	}
	w := world{far: make([][]int, len(c.Parents)), ranges: c.Ranges, owners: make([][]int, len(c.Owners))}
	for a := range w.far {
		w.far[a] = slices.Repeat([]int{apart}, len(c.Parents))
		w.far[a][a] = 0
	}
	for a, b := range c.Parents {
		if b >= 0 {
			w.far[a][b], w.far[b][a] = 1, 1
		}
	}
	for way := range w.far {
		for a := range w.far {
			for b := range w.far {
				w.far[a][b] = min(w.far[a][b], w.far[a][way]+w.far[way][b])
			}
		}
	}
	for i, set := range c.Owners {
		w.owners[i] = members(set)
	}
	return w
}

// members is the sites of a set in increasing order.
func members(set int) []int {
	var l []int
	for s := 0; set > 0; s, set = s+1, set/2 {
		if set%2 == 1 {
			l = append(l, s)
		}
	}
	return l
}

// setOf is the set of some sites.
func setOf(l ...int) int {
	set := 0
	for _, s := range l {
		set += []int{1, 2, 4, 8, 16, 32}[s]
	}
	return set
}

// isSite reports whether a is a site.
func (w world) isSite(a int) bool { return a >= 0 && a < len(w.far) }

// ownersOf is the owners of a key; the last range that begins at or ahead of the key has it.
func (w world) ownersOf(key string) []int {
	var l []int
	for i, r := range w.ranges {
		if r.From <= key {
			l = w.owners[i]
		}
	}
	return l
}

// edge reports whether a step leads from a to b.
func (w world) edge(a, b int) bool { return w.isSite(a) && w.isSite(b) && w.far[a][b] == 1 }

// closer reports whether one of some sites is closer to b than to a.
func (w world) closer(l []int, a, b int) bool {
	return slices.ContainsFunc(l, func(s int) bool { return w.far[b][s] < w.far[a][s] })
}

// next is the sites one step away from at, without from, which are closer to some owner.
func (w world) next(at, from int, key string) []int {
	var l []int
	for s := range w.far {
		if s != from && w.edge(at, s) && w.closer(w.ownersOf(key), at, s) {
			l = append(l, s)
		}
	}
	return l
}

// path is the sites by way of which it is no farther from a to b, those close to a ahead.
func (w world) path(a, b int) []int {
	var l []int
	for s := range w.far {
		if w.far[a][s]+w.far[s][b] == w.far[a][b] {
			l = append(l, s)
		}
	}
	slices.SortFunc(l, func(s, r int) int { return w.far[a][s] - w.far[a][r] })
	return l
}

// paths is how the label comes from its start to each site that lies on the way to an owner: the short paths ahead, and those of one length in the order of their sites.
func (w world) paths(from int, key string) [][]int {
	if !w.isSite(from) {
		return nil
	}
	l := [][]int{{from}}
	for _, o := range w.ownersOf(key) {
		for path := w.path(from, o); len(path) > 0; path = path[:len(path)-1] {
			l = append(l, path)
		}
	}
	slices.SortFunc(l, func(p, q []int) int {
		if len(p) != len(q) {
			return len(p) - len(q)
		}
		return slices.Compare(p, q)
	})
	return slices.CompactFunc(l, slices.Equal)
}

// ways is the last steps of the paths of the label.
func (w world) ways(from int, key string) [][2]int {
	var l [][2]int
	for _, path := range w.paths(from, key) {
		if n := len(path); n > 1 {
			l = append(l, [2]int{path[n-2], path[n-1]})
		}
	}
	return l
}

// reach is the ends of the paths of the label.
func (w world) reach(from int, key string) int {
	var l []int
	for _, path := range w.paths(from, key) {
		l = append(l, path[len(path)-1])
	}
	return setOf(l...)
}

// serves is the ranges with an owner that is closer to near, one step away from site.
func (w world) serves(site, near int) []api.Range {
	var l []api.Range
	for i, r := range w.ranges {
		if w.edge(site, near) && w.closer(w.owners[i], site, near) {
			l = append(l, r)
		}
	}
	return l
}

// holds holds every function against the world of the row, for each of the keys and each pair of the sites.
func holds(t *testing.T, why string, c api.Row, some []string, sites []int) {
	t.Helper()
	w := worldOf(c)
	if got, want := Check(c), len(w.far) > 0; got != want {
		t.Fatalf("Check, %s, %v: %t, want %t", why, c, got, want)
	}
	for _, key := range some {
		holdsKey(t, why, c, w, key, sites)
	}
	for _, site := range sites {
		for _, near := range sites {
			if got, want := Serves(c, site, near), w.serves(site, near); !slices.Equal(got, want) {
				t.Fatalf("Serves, %s, %v, %d to %d: %q, want %q", why, c, site, near, got, want)
			}
		}
	}
}

// holdsKey holds what is answered of a key against the world of the row.
func holdsKey(t *testing.T, why string, c api.Row, w world, key string, sites []int) {
	t.Helper()
	for _, from := range sites {
		if got, want := Ways(c, from, key), w.ways(from, key); !slices.Equal(got, want) {
			t.Fatalf("Ways, %s, %v, from %d, %q: %v, want %v", why, c, from, key, got, want)
		}
		if got, want := Reach(c, from, key), w.reach(from, key); got != want {
			t.Fatalf("Reach, %s, %v, from %d, %q: %d, want %d", why, c, from, key, got, want)
		}
		for _, at := range sites {
			if got, want := Next(c, at, from, key), w.next(at, from, key); !slices.Equal(got, want) {
				t.Fatalf("Next, %s, %v, at %d, from %d, %q: %v, want %v", why, c, at, from, key, got, want)
			}
		}
	}
}

// everyTree calls see with every valid list of so many parents; see must not keep the list.
func everyTree(count int, see func(p []int)) {
	p := make([]int, count)
	var fill func(at int)
	fill = func(at int) {
		if at < count {
			for p[at] = -1; p[at] < count; p[at]++ {
				fill(at + 1)
			}
			return
		}
		if tree.Check(p) {
			see(p)
		}
	}
	fill(0)
}

// P9.1

func TestCheck(t *testing.T) {
	for _, n := range right() {
		if !Check(n.c) {
			t.Errorf("Check, %s, %v: false, want true", n.why, n.c)
		}
	}
	for _, n := range wrong() {
		if Check(n.c) {
			t.Errorf("Check, %s, %v: true, want false", n.why, n.c)
		}
	}
}

// Each half of Check alone would take the rows that the other half is there for.
func TestCheckTakesBothHalves(t *testing.T) {
	for _, n := range noTree() {
		if !table.Check(n.c) || tree.Check(n.c.Parents) || Check(n.c) {
			t.Errorf("%s, %v: table %t, parents %t, Check %t", n.why, n.c, table.Check(n.c), tree.Check(n.c.Parents), Check(n.c))
		}
	}
	for _, n := range noTable() {
		if table.Check(n.c) || !tree.Check(n.c.Parents) || Check(n.c) {
			t.Errorf("%s, %v: table %t, parents %t, Check %t", n.why, n.c, table.Check(n.c), tree.Check(n.c.Parents), Check(n.c))
		}
	}
}

func TestRowsThatAreNotValid(t *testing.T) {
	for _, n := range wrong() {
		for _, key := range []string{"a", "b", "z", "", "\xff"} {
			for _, from := range someSites() {
				if got := Ways(n.c, from, key); len(got) != 0 {
					t.Errorf("Ways, %s, from %d, %q: %v, want none", n.why, from, key, got)
				}
				if got := Reach(n.c, from, key); got != 0 {
					t.Errorf("Reach, %s, from %d, %q: %d, want 0", n.why, from, key, got)
				}
				for _, at := range someSites() {
					if got := Next(n.c, at, from, key); len(got) != 0 {
						t.Errorf("Next, %s, at %d, from %d, %q: %v, want none", n.why, at, from, key, got)
					}
				}
			}
		}
		for _, site := range someSites() {
			for _, near := range someSites() {
				if got := Serves(n.c, site, near); len(got) != 0 {
					t.Errorf("Serves, %s, %d to %d: %q, want none", n.why, site, near, got)
				}
			}
		}
	}
}

// P9.2

func TestNext(t *testing.T) {
	for _, c := range []struct {
		why      string
		c        api.Row
		at, from int
		key      string
		want     []int
	}{
		{"the example's start", chain(), 0, -1, "a", []int{1}},
		{"one that lies on the way and owns nothing", chain(), 1, 0, "a", []int{2}},
		{"the owner at the end", chain(), 2, 1, "a", nil},
		{"the owner as the start", chain(), 2, -1, "a", nil},
		{"a start in the middle, an owner on one side", chain(), 1, -1, "a", []int{2}},
		{"from the side of the owner", chain(), 1, 2, "a", nil},
		{"one site alone", one(), 0, -1, "a", nil},
		{"one site alone, from itself", one(), 0, 0, "b", nil},
		{"all sides", six(), 0, -1, "b", []int{1, 3, 5}},
		{"all sides, from the first", six(), 0, 1, "b", []int{3, 5}},
		{"all sides, from the one in the middle", six(), 0, 3, "b", []int{1, 5}},
		{"all sides, from the last", six(), 0, 5, "b", []int{1, 3}},
		{"an end, from its only side", six(), 1, 0, "b", nil},
		{"an end as the start", six(), 1, -1, "b", []int{0}},
		{"two sides of three", six(), 0, -1, "d", []int{1, 3}},
		{"two sides of three, from one of them", six(), 0, 1, "d", []int{3}},
		{"two sides of three, from the other one", six(), 0, 3, "d", []int{1}},
		{"two sides of three, from the third", six(), 0, 5, "d", []int{1, 3}},
		{"an owner that lies on the way to an owner", six(), 5, 0, "e", []int{2}},
		{"the same owner, from the other side", six(), 5, 2, "e", nil},
		{"towards two owners on one side", six(), 0, 3, "e", []int{5}},
		{"an owner that lies on the way to none", six(), 0, 3, "a", nil},
		{"an owner as the start, alone", six(), 0, -1, "a", nil},
		{"an owner as the start, not alone", six(), 0, -1, "g", []int{3}},
		{"up to the parent", six(), 2, -1, "h", []int{5}},
		{"from a site two steps away", six(), 0, 2, "b", []int{1, 3, 5}},
		{"from a site two steps away, over the root", six(), 0, 4, "b", []int{1, 3, 5}},
		{"from the site itself", six(), 0, 0, "b", []int{1, 3, 5}},
		{"from the owner, which is not adjacent", chain(), 0, 2, "a", []int{1}},
		{"at the beginning of a range", six(), 0, -1, "c", []int{5}},
		{"just ahead of it", six(), 0, -1, "bzzzzzzz", []int{1, 3, 5}},
		{"just ahead of the middle range", fork(), 0, -1, "azzzzzzz", []int{1, 2}},
	} {
		if got := Next(c.c, c.at, c.from, c.key); !slices.Equal(got, c.want) {
			t.Errorf("Next, %s, at %d, from %d, %q: %v, want %v", c.why, c.at, c.from, c.key, got, c.want)
		}
	}
}

// At what is no site there is nothing; from what is no site is the same as from a site that is not adjacent.
func TestNextOfNoSites(t *testing.T) {
	for _, no := range append(noSites(), 3, 4, 5) {
		for _, from := range someSites() {
			if got := Next(chain(), no, from, "a"); len(got) != 0 {
				t.Errorf("Next at %d, from %d: %v, want none", no, from, got)
			}
		}
		if got := Next(chain(), 0, no, "a"); !slices.Equal(got, []int{1}) {
			t.Errorf("Next at 0, from %d: %v, want 1", no, got)
		}
		if got := Next(chain(), 2, no, "a"); len(got) != 0 {
			t.Errorf("Next at 2, from %d: %v, want none", no, got)
		}
	}
	for _, no := range noSites() {
		if got := Next(six(), no, 3, "b"); len(got) != 0 {
			t.Errorf("Next at %d of six: %v, want none", no, got)
		}
		if got := Next(six(), 0, no, "b"); !slices.Equal(got, []int{1, 3, 5}) {
			t.Errorf("Next at 0 of six, from %d: %v, want 1, 3, 5", no, got)
		}
	}
}

func TestWaysAndReach(t *testing.T) {
	for _, c := range []struct {
		why   string
		c     api.Row
		from  int
		key   string
		want  [][2]int
		reach int
	}{
		{"the chapter's example", chain(), 0, "a", [][2]int{{0, 1}, {1, 2}}, setOf(0, 1, 2)},
		{"the example from the middle", chain(), 1, "a", [][2]int{{1, 2}}, setOf(1, 2)},
		{"the example from the owner", chain(), 2, "a", nil, setOf(2)},
		{"one site alone", one(), 0, "a", nil, setOf(0)},
		{"one site alone, its other range", one(), 0, "b", nil, setOf(0)},
		{"a site that owns the key alone, in the middle", six(), 0, "a", nil, setOf(0)},
		{"a site that owns the key alone, at an end", six(), 2, "c", nil, setOf(2)},
		{"a site that owns the key alone, the root", six(), 3, "f", nil, setOf(3)},
		{"from an end to the other one", six(), 4, "c", [][2]int{{4, 3}, {3, 0}, {0, 5}, {5, 2}}, setOf(4, 3, 0, 5, 2)},
		{"from the root to all", six(), 3, "b", [][2]int{{3, 0}, {3, 4}, {0, 1}, {0, 5}, {5, 2}}, setOf(0, 1, 2, 3, 4, 5)},
		{"from an end to all", six(), 2, "b", [][2]int{{2, 5}, {5, 0}, {0, 1}, {0, 3}, {3, 4}}, setOf(0, 1, 2, 3, 4, 5)},
		{"from the middle to all", six(), 0, "b", [][2]int{{0, 1}, {0, 3}, {0, 5}, {3, 4}, {5, 2}}, setOf(0, 1, 2, 3, 4, 5)},
		{"from one owner to the other", six(), 1, "d", [][2]int{{1, 0}, {0, 3}, {3, 4}}, setOf(1, 0, 3, 4)},
		{"from between two owners", six(), 0, "d", [][2]int{{0, 1}, {0, 3}, {3, 4}}, setOf(1, 0, 3, 4)},
		{"from beside the way of two owners", six(), 5, "d", [][2]int{{5, 0}, {0, 1}, {0, 3}, {3, 4}}, setOf(5, 1, 0, 3, 4)},
		{"by way of an owner", six(), 1, "e", [][2]int{{1, 0}, {0, 5}, {5, 2}}, setOf(1, 0, 5, 2)},
		{"from the owner that lies on the way", six(), 5, "e", [][2]int{{5, 2}}, setOf(5, 2)},
		{"from the owner behind it", six(), 2, "e", [][2]int{{2, 5}}, setOf(5, 2)},
		{"an owner behind which nobody is", six(), 5, "g", [][2]int{{5, 0}, {0, 3}, {3, 4}}, setOf(5, 0, 3, 4)},
		// Neither the least number nor the deepest site goes ahead, but what was reached first.
		{"sites at the same distance", fork(), 0, "a", [][2]int{{0, 1}, {0, 2}, {1, 4}, {1, 5}, {2, 3}}, setOf(0, 1, 2, 3, 4, 5)},
		{"some sites at the same distance", fork(), 0, "b", [][2]int{{0, 1}, {0, 2}, {1, 4}, {2, 3}}, setOf(0, 1, 2, 3, 4)},
		{"sites at different distances", fork(), 0, "c", [][2]int{{0, 1}, {0, 2}, {1, 5}}, setOf(0, 1, 2, 5)},
		{"sites at the same distance from another site", fork(), 4, "a", [][2]int{{4, 1}, {1, 0}, {1, 5}, {0, 2}, {2, 3}}, setOf(0, 1, 2, 3, 4, 5)},
		{"a star from an end", rowOf([]int{-1, 0, 0, 0, 0, 0}, 62), 3, "a", [][2]int{{3, 0}, {0, 1}, {0, 2}, {0, 4}, {0, 5}}, setOf(0, 1, 2, 3, 4, 5)},
		{"from site -1", chain(), -1, "a", nil, 0},
		{"from site n", chain(), 3, "a", nil, 0},
		{"from site 5 of three", chain(), 5, "a", nil, 0},
		{"from site 1 of one", one(), 1, "a", nil, 0},
	} {
		if got := Ways(c.c, c.from, c.key); !slices.Equal(got, c.want) {
			t.Errorf("Ways, %s, from %d, %q: %v, want %v", c.why, c.from, c.key, got, c.want)
		}
		if got := Reach(c.c, c.from, c.key); got != c.reach {
			t.Errorf("Reach, %s, from %d, %q: %d, want %d", c.why, c.from, c.key, got, c.reach)
		}
	}
}

func TestWaysAndReachOfNoSites(t *testing.T) {
	for _, n := range right() {
		for _, no := range append(noSites(), len(n.c.Parents)) {
			for _, key := range someKeys() {
				if ways, reach := Ways(n.c, no, key), Reach(n.c, no, key); len(ways) != 0 || reach != 0 {
					t.Errorf("%s, from %d, %q: Ways %v, Reach %d, want none and 0", n.why, no, key, ways, reach)
				}
			}
		}
	}
}

// The ranges have all strings, so that the label of one that is no key goes to the owners of the range that has it.
func TestKeysThatAreNotValid(t *testing.T) {
	for _, c := range []api.Row{chain(), six(), fork(), one()} {
		for key, like := range wrongKeys() {
			for from := range c.Parents {
				ways := Ways(c, from, key)
				if want := Ways(c, from, like); !slices.Equal(ways, want) || Reach(c, from, key) != Reach(c, from, like) {
					t.Errorf("%v, from %d, %q: Ways %v, Reach %d; of %q %v, %d", c, from, key, ways, Reach(c, from, key), like, want, Reach(c, from, like))
				}
				for at := range c.Parents {
					if got, want := Next(c, at, from, key), Next(c, at, from, like); !slices.Equal(got, want) {
						t.Errorf("Next, %v, at %d, from %d, %q: %v; of %q %v", c, at, from, key, got, like, want)
					}
				}
			}
		}
	}
	if got := Reach(six(), 4, ""); got != setOf(4, 3, 0) {
		t.Errorf("Reach, from 4, the empty string: %d, want 4, 3 and 0", got)
	}
	if got := Next(six(), 3, -1, "\xff"); !slices.Equal(got, []int{0}) {
		t.Errorf("Next, at 3, not UTF-8: %v, want 0", got)
	}
}

// P9.3

func TestServes(t *testing.T) {
	two := rowOf([]int{-1, 0, 0, 2}, 9, 2)
	for _, c := range []struct {
		why        string
		c          api.Row
		site, near int
		want       []api.Range
	}{
		{"the chapter's example", chain(), 0, 1, cut()},
		{"the example's end", chain(), 1, 2, cut()},
		{"the example, away from the owner", chain(), 1, 0, nil},
		{"the example, from the owner", chain(), 2, 1, nil},
		{"a site that owns the second range", two, 0, 1, []api.Range{{From: "b"}}},
		{"a site that leads to an owner of the first range", two, 0, 2, []api.Range{{To: "b"}}},
		{"towards owners of both ranges, which touch and stay two", two, 3, 2, []api.Range{{To: "b"}, {From: "b"}}},
		{"away from the range that the site alone owns", two, 1, 0, []api.Range{{To: "b"}}},
		{"ranges that do not touch", six(), 5, 2, []api.Range{{From: "b", To: "c"}, {From: "c", To: "d"}, {From: "e", To: "f"}}},
		{"the least and the greatest range of a side", six(), 5, 0, []api.Range{{To: "b"}, {From: "b", To: "c"}, {From: "d", To: "e"}, {From: "f", To: "g"}, {From: "g", To: "h"}, {From: "h"}}},
		{"an end", six(), 3, 4, []api.Range{{From: "b", To: "c"}, {From: "d", To: "e"}, {From: "g", To: "h"}}},
		{"8 ranges of the same owner", rowOf([]int{-1, 0, 0, 1}, 8, 8, 8, 8, 8, 8, 8, 8), 0, 1, cut("b", "c", "d", "e", "f", "g", "h")},
		{"8 ranges of the same owner, elsewhere", rowOf([]int{-1, 0, 0, 1}, 8, 8, 8, 8, 8, 8, 8, 8), 0, 2, nil},
		{"two steps away", chain(), 0, 2, nil},
		{"two steps away, back", six(), 3, 1, nil},
		{"beside one another", two, 1, 2, nil},
		{"a site and itself", chain(), 1, 1, nil},
		{"the owner and itself", chain(), 2, 2, nil},
		{"the root and itself", six(), 3, 3, nil},
		{"one site and itself", one(), 0, 0, nil},
		{"from site -1", chain(), -1, 0, nil},
		{"to site -1, the root's parent", chain(), 0, -1, nil},
		{"of -1 itself", chain(), -1, -1, nil},
		{"from site n", chain(), 3, 2, nil},
		{"to site n", chain(), 2, 3, nil},
	} {
		if got := Serves(c.c, c.site, c.near); !slices.Equal(got, c.want) {
			t.Errorf("Serves, %s, %d to %d: %q, want %q", c.why, c.site, c.near, got, c.want)
		}
	}
}

func TestServesOfNoSites(t *testing.T) {
	for _, n := range right() {
		for _, no := range append(noSites(), len(n.c.Parents)) {
			for _, site := range someSites() {
				if to, from := Serves(n.c, site, no), Serves(n.c, no, site); len(to) != 0 || len(from) != 0 {
					t.Errorf("Serves, %s, %d to %d: %q, and back: %q, want none", n.why, site, no, to, from)
				}
			}
		}
	}
}

// A range is served if the label of a key of it, which comes from nowhere, goes on from site to near.
func TestServesIsWhereLabelsGo(t *testing.T) {
	for _, n := range right() {
		for site := range n.c.Parents {
			for near := range n.c.Parents {
				var want []api.Range
				for _, r := range n.c.Ranges {
					if slices.Contains(Next(n.c, site, -1, r.From), near) {
						want = append(want, r)
					}
				}
				if got := Serves(n.c, site, near); !slices.Equal(got, want) {
					t.Errorf("Serves, %s, %d to %d: %q, want %q", n.why, site, near, got, want)
				}
			}
		}
	}
}

// All of them together

func TestRowsAtTheEdges(t *testing.T) {
	for _, n := range slices.Concat(right(), wrong()) {
		holds(t, n.why, n.c, someKeys(), someSites())
	}
}

// Every tree of up to four sites, with every set of owners, and with sets in pairs.
func TestEverySmallRow(t *testing.T) {
	for count := 1; count <= 4; count++ {
		everyTree(count, func(p []int) {
			for set := 1; set < 1<<count; set++ {
				holds(t, "a small row", rowOf(p, set, 1<<count-set), []string{"a", "b"}, []int{-1, 0, 1, 2, 3, 4})
			}
		})
	}
}

// Every tree of five and of six sites, with sets of owners by turns.
func TestEveryTree(t *testing.T) {
	set := 0
	for count := 5; count <= 6; count++ {
		all := 1<<count - 1
		everyTree(count, func(p []int) {
			set = set%all + 1
			c := rowOf(p, set, max(all-set, 1))
			holds(t, "a tree", c, []string{"a"}, []int{0, 1, 2, 3, 4, 5})
		})
	}
}

// someRow is a row of up to 8 ranges and 6 sites, most often a valid one.
func someRow(r *rand.Rand) api.Row {
	order := r.Perm(1 + r.IntN(6))
	c := rowOf(make([]int, len(order)), make([]int, 1+r.IntN(8))...)
	for i, s := range order {
		c.Parents[s] = -1
		if i > 0 {
			c.Parents[s] = order[r.IntN(i)]
		}
	}
	for i := range c.Owners {
		c.Owners[i] = 1 + r.IntN(1<<len(order)-1)
	}
	switch at := r.IntN(len(c.Ranges)); r.IntN(20) {
	case 0:
		c.Ranges[at].From = "cc"
	case 1:
		c.Owners[at] = 1 << len(order)
	case 2:
		c.Owners[at] = 0
	case 3:
		c.Parents[order[0]] = order[len(order)-1]
	case 4:
		c.Parents[order[len(order)-1]] = -2
	}
	return c
}

func TestGeneratedRows(t *testing.T) {
	r := rand.New(rand.NewPCG(9, 1))
	valid := 0
	for range 300 {
		c := someRow(r)
		holds(t, "a generated row", c, []string{"", "a", "b", "c", "d", "dzz", "e", "f", "g", "h", "\xff"}, []int{-1, 0, 1, 2, 3, 4, 5, 6, 64})
		if Check(c) {
			valid++
		}
	}
	if valid < 150 {
		t.Errorf("only %d of the generated rows are valid", valid)
	}
}

// P9.4

// leads reports whether an owner of key is found from s without going back to at, by the parents alone.
func leads(c api.Row, at, s int, key string) bool {
	if table.Owns(c, s, key) {
		return true
	}
	for r := range c.Parents {
		if r != at && r != s && (c.Parents[s] == r || c.Parents[r] == s) && leads(c, s, r, key) {
			return true
		}
	}
	return false
}

// arrives tells of an owner that the label does not reach, of a site that it reaches twice, and of one that it should not reach.
func arrives(t *testing.T, c api.Row, from int, key string) {
	t.Helper()
	times := make([]int, len(c.Parents))
	times[from]++
	for _, step := range Ways(c, from, key) {
		at, s := step[0], step[1]
		if times[at] == 0 || c.Parents[s] != at && c.Parents[at] != s {
			t.Fatalf("%v, from %d, %q: a step from %d to %d", c, from, key, at, s)
		}
		if !leads(c, at, s, key) {
			t.Fatalf("%v, from %d, %q: site %d is reached, but no owner is there or beyond", c, from, key, s)
		}
		times[s]++
	}
	set := 0
	for s, n := range times {
		if n > 1 || n == 0 && table.Owns(c, s, key) {
			t.Fatalf("%v, from %d, %q: site %d is reached %d times", c, from, key, s, n)
		}
		set += n << s
	}
	if got := Reach(c, from, key); got != set {
		t.Fatalf("%v, from %d, %q: Reach %d, but the steps reach %d", c, from, key, got, set)
	}
}

func TestALabelReachesEachOwnerOnce(t *testing.T) {
	for _, n := range right() {
		for _, key := range someKeys() {
			for from := range n.c.Parents {
				arrives(t, n.c, from, key)
			}
		}
	}
	set := 0
	for count := 1; count <= 6; count++ {
		everyTree(count, func(p []int) {
			set = set%(1<<count-1) + 1
			for from := range p {
				arrives(t, rowOf(p, set), from, "a")
			}
		})
	}
}

// The same by Next alone: a label that is handed on from site to site, the last one that has come in first.
func TestALabelHandedOnReachesTheSame(t *testing.T) {
	for _, n := range right() {
		for _, key := range someKeys() {
			for from := range n.c.Parents {
				reached, steps := 1<<from, 0
				for open := [][2]int{{-1, from}}; len(open) > 0; {
					before, at := open[len(open)-1][0], open[len(open)-1][1]
					open = open[:len(open)-1]
					for _, s := range Next(n.c, at, before, key) {
						open, reached, steps = append(open, [2]int{at, s}), reached|1<<s, steps+1
					}
				}
				if reached != Reach(n.c, from, key) || steps != len(Ways(n.c, from, key)) || table.Many(reached) != steps+1 {
					t.Fatalf("%s, from %d, %q: handed on to %d in %d steps; Reach %d, Ways %v", n.why, from, key, reached, steps, Reach(n.c, from, key), Ways(n.c, from, key))
				}
			}
		}
	}
}

// R3

func TestNothingIsChanged(t *testing.T) {
	for _, n := range slices.Concat(right(), wrong()) {
		// Room behind the lists: nothing is written there either.
		c := api.Row{Ranges: append(slices.Clone(n.c.Ranges), api.Range{From: "x"}), Owners: append(slices.Clone(n.c.Owners), 9), Parents: append(slices.Clone(n.c.Parents), 9)}
		had := api.Row{Ranges: slices.Clone(c.Ranges), Owners: slices.Clone(c.Owners), Parents: slices.Clone(c.Parents)}
		holds(t, n.why, api.Row{Ranges: c.Ranges[:len(n.c.Ranges)], Owners: c.Owners[:len(n.c.Owners)], Parents: c.Parents[:len(n.c.Parents)]}, []string{"a", "b", ""}, []int{-1, 0, 1, 2, 3, 6})
		if !slices.Equal(c.Ranges, had.Ranges) || !slices.Equal(c.Owners, had.Owners) || !slices.Equal(c.Parents, had.Parents) {
			t.Errorf("%s: the row was changed from %v to %v", n.why, had, c)
		}
	}
}

// shares tells of an answer that is seen in the row or in another answer, up to its capacity.
func shares[E comparable](t *testing.T, what string, c api.Row, call func() []E) {
	t.Helper()
	w := worldOf(api.Row{Ranges: slices.Clone(c.Ranges), Owners: slices.Clone(c.Owners), Parents: slices.Clone(c.Parents)})
	one, two := call(), call()
	want := slices.Clone(two)
	clear(one[:cap(one)])
	if !slices.Equal(two, want) || !slices.Equal(call(), want) {
		t.Errorf("%s: a change of the answer is seen in %v or %v", what, c, two)
	}
	now := worldOf(c)
	if !slices.Equal(now.ranges, w.ranges) || !slices.EqualFunc(now.owners, w.owners, slices.Equal) || !slices.EqualFunc(now.far, w.far, slices.Equal) {
		t.Errorf("%s: a change of the answer is seen in the row: %v", what, c)
	}
	ranges, owners, parents := slices.Clone(c.Ranges), slices.Clone(c.Owners), slices.Clone(c.Parents)
	clear(c.Ranges)
	clear(c.Owners)
	clear(c.Parents)
	if !slices.Equal(two, want) {
		t.Errorf("%s: a change of the row is seen in the answer: %v", what, two)
	}
	copy(c.Ranges, ranges)
	copy(c.Owners, owners)
	copy(c.Parents, parents)
}

func TestAnswersShareNothing(t *testing.T) {
	for _, n := range right() {
		for a := range n.c.Parents {
			for b := range n.c.Parents {
				shares(t, "Next, "+n.why, n.c, func() []int { return Next(n.c, a, b, "a") })
				shares(t, "Serves, "+n.why, n.c, func() []api.Range { return Serves(n.c, a, b) })
			}
			shares(t, "Ways, "+n.why, n.c, func() [][2]int { return Ways(n.c, a, "a") })
		}
	}
}

// P1 and R5
func TestLargeRows(t *testing.T) {
	const count = 1 << 20
	long := strings.Repeat("a", count)
	for _, n := range []named{
		{"many ranges", api.Row{Ranges: make([]api.Range, count), Owners: slices.Repeat([]int{1}, count), Parents: []int{-1}}},
		{"many owners", api.Row{Ranges: cut("m"), Owners: slices.Repeat([]int{1}, count), Parents: []int{-1}}},
		{"many sites", api.Row{Ranges: cut("m"), Owners: []int{1, 1}, Parents: append([]int{-1}, make([]int, count)...)}},
		{"a long bound", api.Row{Ranges: cut(long), Owners: []int{1, 1}, Parents: []int{-1}}},
	} {
		if Check(n.c) || len(Next(n.c, 0, -1, "a")) != 0 || len(Ways(n.c, 0, "a")) != 0 || Reach(n.c, 0, "a") != 0 || len(Serves(n.c, 0, 1)) != 0 {
			t.Errorf("%s: Check %t, Ways %v, Reach %d", n.why, Check(n.c), Ways(n.c, 0, "a"), Reach(n.c, 0, "a"))
		}
	}
	holds(t, "a long key", six(), []string{long, "e" + long, long + "\xff"}, []int{-1, 0, 1, 2, 3, 4, 5, 6})
}

func FuzzRoute(f *testing.F) {
	f.Add("m", "m", 3, 2, "\xff\x00\x00\x02", 0, 1, "a")
	f.Add("m", "n", 3, 2, "\xff\x00", 0, 1, "z")
	f.Add("é", "é", 63, 32, "\x03\x00\x05\xff\x03\x00", 3, -1, "\xff")
	f.Add("b", "b", 1, 64, "\xff\xff", 6, 0, "")
	f.Fuzz(func(t *testing.T, to, from string, first, second int, parents string, a, b int, key string) {
		c := api.Row{Ranges: []api.Range{{To: to}, {From: from}}, Owners: []int{first, second}}
		for _, p := range []byte(parents) {
			c.Parents = append(c.Parents, int(int8(p)))
		}
		holds(t, "a row", c, []string{key, to, from, to + key}, []int{a, b, -1, 0, 5, 6})
		if Check(c) {
			arrives(t, c, 0, key)
		}
	})
}

// The words of the document's examples.
func TestExamples(t *testing.T) {
	c := api.Row{Ranges: []api.Range{{}}, Owners: []int{4}, Parents: []int{-1, 0, 1}}
	if got := Ways(c, 0, "a"); !Check(c) || !slices.Equal(got, [][2]int{{0, 1}, {1, 2}}) {
		t.Errorf("from 0: %v, want to 1, then to 2", got)
	}
	// A label that is sent from site 0 to site 2 by way of site 1 also reaches site 1.
	if got := Reach(c, 0, "a"); got>>1&1 != 1 || got != 7 {
		t.Errorf("Reach from 0: %d, want 0, 1 and 2", got)
	}
}
