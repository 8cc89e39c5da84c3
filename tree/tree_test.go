package tree

import (
	"math"
	"slices"
	"testing"
)

// named is a list of parents, and what is particular to it.
type named struct {
	why string
	p   []int
}

// example is the list of the chapter's example: sites 1 and 2 below site 0, and site 3 below site 1.
func example() []int { return []int{-1, 0, 0, 1} }

// six is a tree of six sites with its root in the middle of the list: 0 and 4 below 3, 1 and 5 below 0, 2 below 5.
func six() []int { return []int{3, 0, 5, -1, 3, 0} }

// right are valid lists: ordinary ones, and those at the edges.
func right() []named {
	return []named{
		{"the chapter's example", example()},
		{"one site", []int{-1}},
		{"two sites", []int{-1, 0}},
		{"two sites, the root last", []int{1, -1}},
		{"six sites", six()},
		{"a chain from the first of six", []int{-1, 0, 1, 2, 3, 4}},
		{"a chain from the last of six", []int{1, 2, 3, 4, 5, -1}},
		{"a chain out of order", []int{4, 3, -1, 2, 1, 0}},
		{"a star at the first of six", []int{-1, 0, 0, 0, 0, 0}},
		{"a star at the last of six", []int{5, 5, 5, 5, 5, -1}},
		{"a star whose middle is not the root", []int{2, 2, 4, 2, -1, 2}},
		{"five sites", []int{2, 0, -1, 2, 0}},
	}
}

// wrong are lists that are not valid.
func wrong() []named {
	return []named{
		{"nil", nil},
		{"no parent", []int{}},
		{"7 parents", []int{-1, 0, 0, 0, 0, 0, 0}},
		{"7 parents in a chain", []int{-1, 0, 1, 2, 3, 4, 5}},
		{"8 parents", []int{-1, 0, 0, 1, 1, 2, 2, 3}},
		{"64 parents", make([]int, 64)},
		{"65 parents", append([]int{-1}, make([]int, 64)...)},
		{"no root, one site", []int{0}},
		{"no root, two sites", []int{1, 0}},
		{"no root, six sites", []int{1, 2, 3, 4, 5, 0}},
		{"two roots", []int{-1, -1}},
		{"two roots, apart", []int{-1, 0, 0, -1, 3, 3}},
		{"two roots, one of them alone", []int{-1, 0, 1, 2, 3, -1}},
		{"roots alone", []int{-1, -1, -1, -1, -1, -1}},
		{"a site that is its own parent", []int{-1, 1}},
		{"the first site as its own parent", []int{0, -1}},
		{"its own parent, with sites below it", []int{-1, 0, 2, 2, 2, 0}},
		{"every site its own parent", []int{0, 1, 2}},
		{"two that go round, beside a root", []int{-1, 2, 1}},
		{"two that go round, beside a root with a site", []int{1, 0, -1, 2}},
		{"three that go round, beside a root", []int{-1, 2, 3, 1}},
		{"five that go round, beside a root", []int{1, 2, 3, 4, 0, -1}},
		{"sites below two that go round, beside a root", []int{-1, 2, 1, 1, 2, 0}},
		{"three that go round, without a root", []int{1, 2, 0}},
		{"a parent of -2", []int{-1, -2}},
		{"a parent of -2 alone", []int{-2}},
		{"a parent of -2, with a site below it", []int{-1, 0, -2, 2}},
		{"a parent of n", []int{-1, 2}},
		{"a parent of n, of one site", []int{1}},
		{"a parent of n, of six sites", []int{-1, 0, 0, 6, 0, 0}},
		{"a parent of n, with a site below it", []int{-1, 3, 1}},
		{"a parent of n + 1", []int{-1, 0, 4}},
		{"a parent of 6, of two sites", []int{-1, 6}},
		{"the greatest parent", []int{-1, math.MaxInt}},
		{"the greatest parent, ahead of the root", []int{math.MaxInt, -1, 1}},
		{"the least parent", []int{-1, math.MinInt}},
		{"the least parent, ahead of the root", []int{math.MinInt, -1, 1}},
		{"a parent of 2^32", []int{-1, 1 << 32}},
		{"a parent of 2^32 - 1", []int{1<<32 - 1, 0}},
	}
}

// someSites are sites of lists, and numbers that are none.
func someSites() []int {
	return []int{math.MinInt, math.MinInt + 1, -1 << 32, -64, -7, -6, -2, -1, 0, 1, 2, 3, 4, 5, 6, 7, 63, 64, 65, 1 << 32, math.MaxInt - 1, math.MaxInt}
}

// apart stands for sites between which no path is.
const apart = 1000

// steps is how many steps each site is from each other one, with no regard to which of two adjacent sites is the parent.
type steps [][]int

// stepsOf is the steps between sites that are adjacent, shortened by way of every site in turn. It is empty if p is not valid.
func stepsOf(p []int) steps {
	if len(p) == 0 || len(p) > 6 {
		return nil
	}
	roots, far := 0, make(steps, len(p))
	for a := range far {
		far[a] = slices.Repeat([]int{apart}, len(p))
		far[a][a] = 0
	}
	for a, b := range p {
		if b == -1 {
			roots++
			continue
		}
		if b < 0 || b >= len(p) || b == a {
			return nil
		}
		far[a][b], far[b][a] = 1, 1
	}
	for way := range far {
		for a := range far {
			for b := range far {
				far[a][b] = min(far[a][b], far[a][way]+far[way][b])
			}
		}
	}
	// With one edge less than sites, a graph in which none are apart is a tree.
	if roots != 1 || slices.ContainsFunc(far, func(l []int) bool { return slices.Contains(l, apart) }) {
		return nil
	}
	return far
}

// isSite reports whether a is a site.
func (far steps) isSite(a int) bool { return slices.Contains(far.sites(), a) }

// sites is the numbers of all sites.
func (far steps) sites() []int {
	var l []int
	for a := range far {
		l = append(l, a)
	}
	return l
}

// near is the sites one step away from a.
func (far steps) near(a int) []int {
	if !far.isSite(a) {
		return nil
	}
	return slices.DeleteFunc(far.sites(), func(s int) bool { return far[a][s] != 1 })
}

// path is the sites by way of which it is no farther from a to b, those close to a ahead.
func (far steps) path(a, b int) []int {
	if !far.isSite(a) || !far.isSite(b) {
		return nil
	}
	l := slices.DeleteFunc(far.sites(), func(s int) bool { return far[a][s]+far[s][b] > far[a][b] })
	slices.SortFunc(l, func(s, r int) int { return far[a][s] - far[a][r] })
	return l
}

// side is the sites that are closer to b than to a.
func (far steps) side(a, b int) int {
	if !slices.Contains(far.near(a), b) {
		return 0
	}
	set := 0
	for s := range far {
		if far[b][s] < far[a][s] {
			set += []int{1, 2, 4, 8, 16, 32}[s]
		}
	}
	return set
}

// far is how many steps b is from a.
func (far steps) far(a, b int) int {
	if !far.isSite(a) || !far.isSite(b) {
		return -1
	}
	return far[a][b]
}

// holds holds every function against the steps of the list, for each pair of the sites.
func holds(t *testing.T, why string, p, sites []int) {
	t.Helper()
	far := stepsOf(p)
	if got, want := Check(p), len(far) > 0; got != want {
		t.Fatalf("Check, %s, %v: %t, want %t", why, p, got, want)
	}
	for _, a := range sites {
		if got, want := Near(p, a), far.near(a); !slices.Equal(got, want) {
			t.Fatalf("Near, %s, %v, %d: %v, want %v", why, p, a, got, want)
		}
		for _, b := range sites {
			if got, want := Path(p, a, b), far.path(a, b); !slices.Equal(got, want) {
				t.Fatalf("Path, %s, %v, %d to %d: %v, want %v", why, p, a, b, got, want)
			}
			if got, want := Side(p, a, b), far.side(a, b); got != want {
				t.Fatalf("Side, %s, %v, %d from %d: %d, want %d", why, p, b, a, got, want)
			}
			if got, want := Far(p, a, b), far.far(a, b); got != want {
				t.Fatalf("Far, %s, %v, %d to %d: %d, want %d", why, p, a, b, got, want)
			}
		}
	}
}

// every calls see with every list of so many numbers from low to high; see must not keep the list.
func every(count, low, high int, see func(p []int)) {
	p := make([]int, count)
	var fill func(at int)
	fill = func(at int) {
		if at == count {
			see(p)
			return
		}
		for p[at] = low; p[at] <= high; p[at]++ {
			fill(at + 1)
		}
	}
	fill(0)
}

// P8.1

func TestCheck(t *testing.T) {
	for _, n := range right() {
		if !Check(n.p) || len(stepsOf(n.p)) == 0 {
			t.Errorf("Check, %s, %v: %t, want true", n.why, n.p, Check(n.p))
		}
	}
	for _, n := range wrong() {
		if Check(n.p) || len(stepsOf(n.p)) != 0 {
			t.Errorf("Check, %s, %v: %t, want false", n.why, n.p, Check(n.p))
		}
	}
}

// Of so many sites there are n^(n-1) trees with a root, whatever else the lists may hold.
func TestCheckOfEveryList(t *testing.T) {
	for count, want := range []int{0, 1, 2, 9, 64, 625, 7776} {
		valid := 0
		every(count, -2, count, func(p []int) {
			is := Check(p)
			if is != (len(stepsOf(p)) > 0) {
				t.Fatalf("Check(%v): %t", p, is)
			}
			if is {
				valid++
			}
		})
		if valid != want {
			t.Errorf("%d lists of %d parents are valid, want %d", valid, count, want)
		}
	}
}

func TestCheckOfEveryLength(t *testing.T) {
	for count := range 70 {
		chain, star, all := make([]int, count), make([]int, count), make([]int, count)
		for s := range count {
			chain[s], star[s], all[s] = s-1, 0, -1
		}
		if count > 0 {
			star[0] = -1
		}
		want := count >= 1 && count <= 6
		if Check(chain) != want || Check(star) != want {
			t.Errorf("Check of %d sites: a chain %t, a star %t, want %t", count, Check(chain), Check(star), want)
		}
		if Check(make([]int, count)) || Check(all) != (count == 1) {
			t.Errorf("Check of %d sites: without a root %t, of roots alone %t", count, Check(make([]int, count)), Check(all))
		}
	}
}

// One parent of a tree is replaced by what is no site.
func TestCheckOfOneParent(t *testing.T) {
	for _, n := range right() {
		for s := range n.p {
			for _, parent := range someSites() {
				p := slices.Clone(n.p)
				p[s] = parent
				want := len(stepsOf(p)) > 0
				if got := Check(p); got != want || got && parent != -1 && (parent < 0 || parent >= len(p)) {
					t.Errorf("Check(%v): %t, want %t", p, got, want)
				}
			}
		}
	}
}

func TestNear(t *testing.T) {
	for _, c := range []struct {
		why  string
		p    []int
		a    int
		want []int
	}{
		{"the example's root", example(), 0, []int{1, 2}},
		{"one with a parent and a site below", example(), 1, []int{0, 3}},
		{"one with a parent alone", example(), 2, []int{0}},
		{"the last one", example(), 3, []int{1}},
		{"one site", []int{-1}, 0, nil},
		{"the root of two", []int{1, -1}, 1, []int{0}},
		{"the other of two", []int{1, -1}, 0, []int{1}},
		{"a root in the middle", six(), 3, []int{0, 4}},
		{"a parent greater than the sites below", six(), 5, []int{0, 2}},
		{"a parent between the sites below", six(), 0, []int{1, 3, 5}},
		{"the middle of a star", []int{5, 5, 5, 5, 5, -1}, 5, []int{0, 1, 2, 3, 4}},
		{"an end of a star", []int{5, 5, 5, 5, 5, -1}, 4, []int{5}},
		{"site -1", example(), -1, nil},
		{"site -1, of one site", []int{-1}, -1, nil},
		{"site n", example(), 4, nil},
		{"site n, of six sites", six(), 6, nil},
		{"site 64", six(), 64, nil},
		{"the least site", six(), math.MinInt, nil},
		{"the greatest site", six(), math.MaxInt, nil},
	} {
		if got := Near(c.p, c.a); !slices.Equal(got, c.want) {
			t.Errorf("Near, %s, %v, %d: %v, want %v", c.why, c.p, c.a, got, c.want)
		}
	}
}

func TestPathAndFar(t *testing.T) {
	for _, c := range []struct {
		why  string
		p    []int
		a, b int
		want []int
	}{
		{"the chapter's example", example(), 3, 2, []int{3, 1, 0, 2}},
		{"the same back", example(), 2, 3, []int{2, 0, 1, 3}},
		{"down to a site below", example(), 0, 3, []int{0, 1, 3}},
		{"up to the root", example(), 3, 0, []int{3, 1, 0}},
		{"one step down", example(), 1, 3, []int{1, 3}},
		{"one step up", example(), 1, 0, []int{1, 0}},
		{"beside one another", example(), 1, 2, []int{1, 0, 2}},
		{"the root of itself", example(), 0, 0, []int{0}},
		{"a site of itself", example(), 3, 3, []int{3}},
		{"one site of itself", []int{-1}, 0, 0, []int{0}},
		{"two sites", []int{1, -1}, 0, 1, []int{0, 1}},
		{"by way of the root", six(), 2, 4, []int{2, 5, 0, 3, 4}},
		{"not by way of the root", six(), 1, 2, []int{1, 0, 5, 2}},
		{"a whole chain", []int{-1, 0, 1, 2, 3, 4}, 0, 5, []int{0, 1, 2, 3, 4, 5}},
		{"a whole chain back", []int{-1, 0, 1, 2, 3, 4}, 5, 0, []int{5, 4, 3, 2, 1, 0}},
		{"a whole chain out of order", []int{4, 3, -1, 2, 1, 0}, 5, 2, []int{5, 0, 4, 1, 3, 2}},
		{"two ends of a star", []int{5, 5, 5, 5, 5, -1}, 4, 0, []int{4, 5, 0}},
		{"from site -1", example(), -1, 0, nil},
		{"to site -1", example(), 0, -1, nil},
		{"of -1 itself", example(), -1, -1, nil},
		{"from site n", example(), 4, 0, nil},
		{"to site n", example(), 0, 4, nil},
		{"of n itself", example(), 4, 4, nil},
		{"of n itself, of six sites", six(), 6, 6, nil},
		{"to site 64", six(), 0, 64, nil},
		{"from the least site", six(), math.MinInt, 0, nil},
		{"to the greatest site", six(), 0, math.MaxInt, nil},
		{"of the greatest site itself", six(), math.MaxInt, math.MaxInt, nil},
	} {
		if got := Path(c.p, c.a, c.b); !slices.Equal(got, c.want) {
			t.Errorf("Path, %s, %v, %d to %d: %v, want %v", c.why, c.p, c.a, c.b, got, c.want)
		}
		// Where there is no path, that is the -1 that Far answers.
		if got, want := Far(c.p, c.a, c.b), len(c.want)-1; got != want {
			t.Errorf("Far, %s, %v, %d to %d: %d, want %d", c.why, c.p, c.a, c.b, got, want)
		}
	}
}

func TestSide(t *testing.T) {
	for _, c := range []struct {
		why        string
		p          []int
		a, b, want int
	}{
		{"the chapter's example", example(), 0, 1, 1<<1 | 1<<3},
		{"the root's other side", example(), 0, 2, 1 << 2},
		{"towards the root", example(), 1, 0, 1<<0 | 1<<2},
		{"away from the root", example(), 1, 3, 1 << 3},
		{"from an end", example(), 3, 1, 1<<0 | 1<<1 | 1<<2},
		{"two sites", []int{1, -1}, 0, 1, 1 << 1},
		{"two sites, the other way", []int{1, -1}, 1, 0, 1 << 0},
		{"six sites, over the root", six(), 0, 3, 1<<3 | 1<<4},
		{"six sites, below", six(), 0, 5, 1<<2 | 1<<5},
		{"six sites, from the root", six(), 3, 0, 1<<0 | 1<<1 | 1<<2 | 1<<5},
		{"a chain from its end", []int{-1, 0, 1, 2, 3, 4}, 0, 1, 62},
		{"a chain from its other end", []int{-1, 0, 1, 2, 3, 4}, 5, 4, 31},
		{"an end of a star", []int{5, 5, 5, 5, 5, -1}, 5, 0, 1 << 0},
		{"the middle of a star", []int{5, 5, 5, 5, 5, -1}, 0, 5, 62},
		{"a site from itself", example(), 1, 1, 0},
		{"the root from itself", example(), 0, 0, 0},
		{"one site from itself", []int{-1}, 0, 0, 0},
		{"two steps away", example(), 0, 3, 0},
		{"two steps away, back", example(), 3, 0, 0},
		{"beside one another", example(), 1, 2, 0},
		{"three steps away", example(), 2, 3, 0},
		{"from site -1", example(), -1, 0, 0},
		// The root's parent of -1 is no site, and so not adjacent.
		{"of site -1, from the root", example(), 0, -1, 0},
		{"of -1 from itself", example(), -1, -1, 0},
		{"from site n", example(), 4, 0, 0},
		{"of site n", example(), 0, 4, 0},
		{"of n from itself", example(), 4, 4, 0},
		{"of site 64", six(), 3, 64, 0},
		{"from the least site", six(), math.MinInt, 3, 0},
		{"of the greatest site", six(), 3, math.MaxInt, 0},
	} {
		if got := Side(c.p, c.a, c.b); got != c.want {
			t.Errorf("Side, %s, %v, %d from %d: %d, want %d", c.why, c.p, c.b, c.a, got, c.want)
		}
	}
}

func TestListsThatAreNotValid(t *testing.T) {
	for _, n := range wrong() {
		for _, a := range someSites() {
			if got := Near(n.p, a); len(got) != 0 {
				t.Errorf("Near, %s, %v, %d: %v, want none", n.why, n.p, a, got)
			}
			for _, b := range someSites() {
				if got := Path(n.p, a, b); len(got) != 0 {
					t.Errorf("Path, %s, %v, %d to %d: %v, want none", n.why, n.p, a, b, got)
				}
				if got := Side(n.p, a, b); got != 0 {
					t.Errorf("Side, %s, %v, %d from %d: %d, want 0", n.why, n.p, b, a, got)
				}
				if got := Far(n.p, a, b); got != -1 {
					t.Errorf("Far, %s, %v, %d to %d: %d, want -1", n.why, n.p, a, b, got)
				}
			}
		}
	}
}

func TestListsAtTheEdges(t *testing.T) {
	for _, n := range slices.Concat(right(), wrong()) {
		holds(t, n.why, n.p, someSites())
	}
}

func TestEverySmallList(t *testing.T) {
	for count := range 5 {
		every(count, -2, count, func(p []int) { holds(t, "a small list", p, []int{-2, -1, 0, 1, 2, 3, 4, 5, 6}) })
	}
}

func TestEveryTree(t *testing.T) {
	for count := 1; count <= 6; count++ {
		every(count, -1, count-1, func(p []int) {
			if len(stepsOf(p)) > 0 {
				holds(t, "a tree", p, []int{-1, 0, 1, 2, 3, 4, 5, 6})
			}
		})
	}
}

// The words of the contract on a path, and that its way back is the same.
func TestPathsAreSteps(t *testing.T) {
	for _, n := range right() {
		for a := range n.p {
			for b := range n.p {
				path, back := Path(n.p, a, b), Path(n.p, b, a)
				if len(path) == 0 || path[0] != a || path[len(path)-1] != b || Far(n.p, a, b) != len(path)-1 {
					t.Fatalf("%s: path from %d to %d: %v, Far %d", n.why, a, b, path, Far(n.p, a, b))
				}
				for i := 1; i < len(path); i++ {
					if n.p[path[i]] != path[i-1] && n.p[path[i-1]] != path[i] || slices.Contains(path[:i], path[i]) {
						t.Fatalf("%s: path from %d to %d: %v: a wrong step to %d", n.why, a, b, path, path[i])
					}
				}
				if slices.Reverse(back); !slices.Equal(path, back) {
					t.Fatalf("%s: path from %d to %d: %v, and back from the other end: %v", n.why, a, b, path, back)
				}
			}
		}
	}
}

// P8.2

// partition tells of a site that is in no side or in two, as seen from a.
func partition(t *testing.T, p []int, a int) {
	t.Helper()
	var in [6]int
	for _, b := range Near(p, a) {
		side := Side(p, a, b)
		if side < 0 || side >= 1<<len(p) {
			t.Fatalf("Side(%v, %d, %d): %d has more than %d sites", p, a, b, side, len(p))
		}
		for s := range p {
			in[s] += side >> s & 1
		}
	}
	for s := range p {
		want := 1
		if s == a {
			want = 0
		}
		if in[s] != want {
			t.Fatalf("%v: as seen from %d, site %d is in %d sides, want %d", p, a, s, in[s], want)
		}
	}
}

func TestSidesHaveEachOtherSiteOnce(t *testing.T) {
	trees := 0
	for count := 1; count <= 6; count++ {
		every(count, -1, count-1, func(p []int) {
			if !Check(p) {
				return
			}
			trees++
			for a := range p {
				partition(t, p, a)
			}
		})
	}
	if want := 1 + 2 + 9 + 64 + 625 + 7776; trees != want {
		t.Errorf("%d trees, want %d", trees, want)
	}
}

// R3

func TestNothingIsChanged(t *testing.T) {
	for _, n := range slices.Concat(right(), wrong()) {
		// Room behind the list: nothing is written there either.
		all := append(slices.Clone(n.p), 9, 9, 9, 9, 9, 9)
		had := slices.Clone(all)
		holds(t, n.why, all[:len(n.p)], someSites())
		if !slices.Equal(all, had) {
			t.Errorf("%s: the list was changed from %v to %v", n.why, had, all)
		}
	}
}

func TestAnswersShareNothing(t *testing.T) {
	for _, n := range right() {
		p := slices.Clone(n.p)
		for a := range p {
			for b := range p {
				for _, call := range []func() []int{
					func() []int { return Near(p, a) },
					func() []int { return Path(p, a, b) },
				} {
					one, two := call(), call()
					want := slices.Clone(two)
					clear(one[:cap(one)])
					if !slices.Equal(p, n.p) || !slices.Equal(two, want) || !slices.Equal(call(), want) {
						t.Fatalf("%s: a change of the answer for %d and %d is seen in %v or %v", n.why, a, b, p, two)
					}
					clear(p)
					if !slices.Equal(two, want) {
						t.Fatalf("%s: a change of the list is seen in the answer for %d and %d: %v", n.why, a, b, two)
					}
					copy(p, n.p)
				}
			}
		}
	}
}

// P1 and R5
func TestLongLists(t *testing.T) {
	const count = 1 << 20
	chain, star, circle := make([]int, count), make([]int, count), make([]int, count)
	for s := range count {
		chain[s], circle[s] = s-1, (s+1)%count
	}
	star[0] = -1
	for _, n := range []named{{"a chain", chain}, {"a star", star}, {"a circle", circle}, {"zeros", make([]int, count)}} {
		for _, a := range []int{-1, 0, 1, 6, count - 1, count} {
			if Check(n.p) || len(Near(n.p, a)) != 0 || len(Path(n.p, 0, a)) != 0 || Side(n.p, 0, a) != 0 || Far(n.p, a, 0) != -1 {
				t.Errorf("%s, %d: %t, %d, %d, %d, %d", n.why, a, Check(n.p), len(Near(n.p, a)), len(Path(n.p, 0, a)), Side(n.p, 0, a), Far(n.p, a, 0))
			}
		}
	}
}

func FuzzTree(f *testing.F) {
	f.Add("\xff\x00\x00\x01", 3, 2)
	f.Add("\x03\x00\x05\xff\x03\x00", 0, 5)
	f.Add("\xff\x02\x01", 0, -1)
	f.Add("\xff\x00\x01\x02\x03\x04\x05", 6, 0)
	f.Add("\xfe\xff", math.MinInt, math.MaxInt)
	f.Add("", 0, 0)
	f.Fuzz(func(t *testing.T, parents string, a, b int) {
		var p []int
		for _, x := range []byte(parents) {
			p = append(p, int(int8(x)))
		}
		holds(t, "a list", p, []int{a, b, 0, 5})
		if Check(p) && a >= 0 && a < len(p) {
			partition(t, p, a)
		}
	})
}

// The words of the document's examples.
func TestExamples(t *testing.T) {
	p := []int{-1, 0, 0, 1}
	if got := Path(p, 3, 2); !Check(p) || !slices.Equal(got, []int{3, 1, 0, 2}) {
		t.Errorf("the path from 3 to 2 is %v, want 3, 1, 0, 2", got)
	}
	if got := Side(p, 0, 1); got != 1<<1+1<<3 {
		t.Errorf("Side of 1 from 0: %d, want 1 and 3", got)
	}
}
