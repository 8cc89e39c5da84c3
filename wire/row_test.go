package wire

import (
	"math"
	"math/rand/v2"
	"slices"
	"strings"
	"testing"

	"archipelago/api"
)

// cut is the ranges between some bounds, the first and the last one without a bound on their outer sides.
func cut(bounds ...string) []api.Range {
	l := make([]api.Range, len(bounds)+1)
	for i, b := range bounds {
		l[i].To, l[i+1].From = b, b
	}
	return l
}

// letters is so many ranges, cut at letters.
func letters(count int) []api.Range { return cut(strings.Split("bcdefghijklmnop", "")[:count-1]...) }

// times is a list of so many equal numbers.
func times(count, n int) []int { return slices.Repeat([]int{n}, count) }

// rowOf is a row of so many ranges and sites, all owned by site 0 alone.
func rowOf(ranges, sites int) api.Row {
	return api.Row{Ranges: letters(ranges), Owners: times(ranges, 1), Parents: times(sites, -1)}
}

// namedRow is a row, and what is particular to it.
type namedRow struct {
	why string
	c   api.Row
}

// rightRows are encodable rows: ordinary ones, and those at the edges.
func rightRows() []namedRow {
	two := []api.Range{{To: "m"}, {From: "m"}}
	long := strings.Repeat("\U0010ffff", 8)
	return []namedRow{
		{"one range, one site", api.Row{Ranges: []api.Range{{}}, Owners: []int{1}, Parents: []int{-1}}},
		{"two ranges, two sites", api.Row{Ranges: two, Owners: []int{3, 2}, Parents: []int{-1, 0}}},
		{"one range, six sites", rowOf(1, 6)},
		{"eight ranges, one site", rowOf(8, 1)},
		{"seven ranges, five sites", rowOf(7, 5)},
		{"eight ranges, six sites", api.Row{Ranges: letters(8), Owners: []int{1, 63, 32, 33, 62, 31, 2, 4}, Parents: []int{5, -1, 0, 1, 2, 4}}},
		{"owners of 1 and of 2^n - 1, of one site", api.Row{Ranges: two, Owners: []int{1, 1}, Parents: []int{-1}}},
		{"owners of 1 and of 2^n - 1, of two sites", api.Row{Ranges: two, Owners: []int{1, 3}, Parents: []int{-1, 0}}},
		{"owners of 1 and of 2^n - 1, of six sites", api.Row{Ranges: two, Owners: []int{1, 63}, Parents: times(6, 0)}},
		// The chapter asks for no tree: that is for another layer.
		{"parents of -1 and of 5", api.Row{Ranges: two, Owners: []int{1, 1}, Parents: []int{-1, 5}}},
		{"a parent that is no site of the row", api.Row{Ranges: []api.Range{{}}, Owners: []int{1}, Parents: []int{5}}},
		{"a site that is its own parent", api.Row{Ranges: []api.Range{{}}, Owners: []int{1}, Parents: []int{0}}},
		{"roots alone", rowOf(2, 3)},
		{"long bounds", api.Row{Ranges: cut("!", long), Owners: []int{1, 1, 1}, Parents: []int{-1}}},
		{"a bound of two bytes", api.Row{Ranges: cut("é"), Owners: []int{1, 1}, Parents: []int{-1}}},
		{"a bound that begins the next one", api.Row{Ranges: cut("a", "aa"), Owners: []int{1, 1, 1}, Parents: []int{-1}}},
	}
}

// wrongRows are rows that are not encodable, nearly all for one reason alone.
func wrongRows() []namedRow {
	two := []api.Range{{To: "m"}, {From: "m"}}
	ranges := func(l ...api.Range) api.Row { return api.Row{Ranges: l, Owners: times(len(l), 1), Parents: []int{-1}} }
	owners := func(sites int, l ...int) api.Row { return api.Row{Ranges: two, Owners: l, Parents: times(sites, -1)} }
	parents := func(l ...int) api.Row { return api.Row{Ranges: two, Owners: []int{1, 1}, Parents: l} }
	return []namedRow{
		{"the zero row", api.Row{}},
		{"no range", ranges()},
		{"no range, but an owner", api.Row{Owners: []int{1}, Parents: []int{-1}}},
		{"nine ranges", rowOf(9, 2)},
		{"ten ranges", rowOf(10, 6)},
		{"no site", owners(0, 1, 1)},
		{"no site and no owner", api.Row{Ranges: two}},
		{"seven sites", rowOf(2, 7)},
		{"eight sites", rowOf(8, 8)},
		{"64 sites", rowOf(1, 64)},
		{"a parent of -2", parents(-2)},
		{"a parent of -2, behind another one", parents(-1, -2)},
		{"a parent of 6", parents(6)},
		{"a parent of 6, behind others", parents(-1, 0, 1, 2, 3, 6)},
		{"the least parent", parents(math.MinInt)},
		{"the greatest parent", parents(math.MaxInt)},
		{"an owner of 0", owners(2, 0, 1)},
		{"an owner of 0, at the end", owners(2, 1, 0)},
		{"an owner of -1", owners(2, 1, -1)},
		{"the least owner", owners(2, math.MinInt, 1)},
		{"the greatest owner", owners(6, 1, math.MaxInt)},
		{"an owner of 2^n, of one site", owners(1, 2, 1)},
		{"an owner of 2^n, of one site, at the end", owners(1, 1, 2)},
		{"an owner of 2^n, of two sites", owners(2, 1, 4)},
		{"an owner of 2^n, of five sites", owners(5, 1, 32)},
		{"an owner of 2^n, of six sites", owners(6, 1, 64)},
		{"an owner of 2^n + 1, of six sites", owners(6, 1, 65)},
		{"no owner", owners(2)},
		{"one owner less", owners(2, 1)},
		{"one owner more", owners(2, 1, 1, 1)},
		{"a first range with a From", ranges(api.Range{From: "a", To: "m"}, api.Range{From: "m"})},
		{"a last range with a To", ranges(api.Range{To: "m"}, api.Range{From: "m", To: "z"})},
		{"one range with a To", ranges(api.Range{To: "m"})},
		{"one range with a From", ranges(api.Range{From: "m"})},
		{"a gap", ranges(api.Range{To: "m"}, api.Range{From: "n"})},
		{"an overlap", ranges(api.Range{To: "m"}, api.Range{From: "l"})},
		{"an end in the middle", ranges(api.Range{To: "m"}, api.Range{From: "m"}, api.Range{From: "m"})},
		{"an empty From in the middle", ranges(api.Range{}, api.Range{})},
		{"equal bounds", ranges(cut("m", "m")...)},
		{"falling bounds", ranges(cut("m", "l")...)},
		{"a bound with rune 20", ranges(cut("a b")...)},
		{"a bound of 9 runes", ranges(cut("aaaaaaaaa")...)},
		{"a bound that is not UTF-8", ranges(cut("a\xff")...)},
		{"an empty bound", ranges(cut("")...)},
		{"an empty bound ahead of another one", ranges(cut("", "m")...)},
	}
}

// wholeAgain builds the only whole list of as many ranges with the same ends, and asks whether l is that list.
func wholeAgain(l []api.Range) bool {
	var bounds []string
	for _, r := range l[:max(len(l)-1, 0)] {
		if !keyAgain(r.To) || len(bounds) > 0 && bounds[len(bounds)-1] >= r.To {
			return false
		}
		bounds = append(bounds, r.To)
	}
	return len(l) > 0 && slices.Equal(l, cut(bounds...))
}

func encodableAgain(c api.Row) bool {
	if len(c.Ranges) > 8 || len(c.Parents) == 0 || len(c.Parents) > 6 || len(c.Owners) != len(c.Ranges) {
		return false
	}
	for _, p := range c.Parents {
		if p < -1 || p > 5 {
			return false
		}
	}
	for _, o := range c.Owners {
		if o <= 0 || o > []int{0, 1, 3, 7, 15, 31, 63}[len(c.Parents)] {
			return false
		}
	}
	return wholeAgain(c.Ranges)
}

func encodedRow(c api.Row) string {
	var w coder
	w.number(len(c.Ranges))
	for i, r := range c.Ranges {
		if i < len(c.Ranges)-1 {
			w.text(r.To)
		}
	}
	for _, o := range c.Owners {
		w.number(o)
	}
	w.number(len(c.Parents))
	for _, p := range c.Parents {
		w.number(p + 1)
	}
	return string(w.out)
}

func readRowAgain(s string) (api.Row, bool) {
	d := &decoder{s: []byte(s)}
	var c api.Row
	var bounds []string
	ranges := d.number()
	if ranges == 0 || ranges > 8 {
		return api.Row{}, false
	}
	for range ranges - 1 {
		bounds = append(bounds, d.text())
	}
	for range ranges {
		c.Owners = append(c.Owners, d.number())
	}
	for n := d.number(); n > 0 && !d.bad; n-- {
		c.Parents = append(c.Parents, d.number()-1)
	}
	c.Ranges = cut(bounds...)
	if d.bad || !encodableAgain(c) || encodedRow(c) != s {
		return api.Row{}, false
	}
	return c, true
}

func sameRow(a, b api.Row) bool {
	return slices.Equal(a.Ranges, b.Ranges) && slices.Equal(a.Owners, b.Owners) && slices.Equal(a.Parents, b.Parents)
}

// cloned is a copy that shares nothing with c.
func cloned(c api.Row) api.Row {
	return api.Row{Ranges: slices.Clone(c.Ranges), Owners: slices.Clone(c.Owners), Parents: slices.Clone(c.Parents)}
}

// holdsRow holds what ReadRow answers against what the chapter says.
func holdsRow(t *testing.T, why, s string) {
	t.Helper()
	got, ok := ReadRow(s)
	want, fine := readRowAgain(s)
	if ok != fine || !sameRow(got, want) {
		t.Fatalf("ReadRow, %s, % x: %v, %t, want %v, %t", why, s, got, ok, want, fine)
	}
	if ok && RowBytes(got) != s {
		t.Fatalf("ReadRow, %s, % x: %v, whose bytes are % x", why, s, got, RowBytes(got))
	}
}

// refusesRow tells of a ReadRow that does not answer the zero row and false.
func refusesRow(t *testing.T, why, s string) {
	t.Helper()
	if c, ok := ReadRow(s); ok || c.Ranges != nil || c.Owners != nil || c.Parents != nil {
		t.Errorf("ReadRow, %s, % x: %v, %t, want the zero row, false", why, s, c, ok)
	}
}

// someRow is a row of few different parts, encodable or not.
func someRow(r *rand.Rand) api.Row {
	var bounds []string
	for range r.IntN(4) {
		bounds = append(bounds, []string{"b", "m", "ma", "é", "z", "a b", ""}[r.IntN(7)])
	}
	if r.IntN(3) > 0 {
		slices.Sort(bounds)
	}
	c := api.Row{Ranges: cut(bounds...), Owners: make([]int, len(bounds)+1)}
	for range r.IntN(7) + r.IntN(2) {
		c.Parents = append(c.Parents, r.IntN(6)-1+r.IntN(40)/39-r.IntN(40)/39)
	}
	for i := range c.Owners {
		c.Owners[i] = r.IntN(1<<len(c.Parents)) + r.IntN(5)/4
	}
	switch r.IntN(20) {
	case 0:
		c.Ranges[r.IntN(len(c.Ranges))].From = "c"
	case 1:
		c.Ranges[r.IntN(len(c.Ranges))].To = "c"
	case 2:
		c.Owners = append(c.Owners, 1)
	case 3:
		c.Owners = c.Owners[1:]
	}
	return c
}

// P6.2

func TestRowBytes(t *testing.T) {
	for _, n := range rightRows() {
		if got, want := RowBytes(n.c), encodedRow(n.c); got != want || !encodableAgain(n.c) {
			t.Errorf("RowBytes, %s, %v: % x, want % x", n.why, n.c, got, want)
		}
	}
	for _, n := range wrongRows() {
		if got := RowBytes(n.c); got != "" || encodableAgain(n.c) {
			t.Errorf("RowBytes, %s, %v: % x, want none", n.why, n.c, got)
		}
	}
}

func TestRowBytesInFull(t *testing.T) {
	for _, c := range []struct {
		row  api.Row
		want string
	}{
		{rowOf(1, 1), "\x01\x01\x01\x00"},
		{api.Row{Ranges: cut("m"), Owners: []int{3, 2}, Parents: []int{-1, 0}}, "\x02\x01m\x03\x02\x02\x00\x01"},
		{api.Row{Ranges: cut("b", "é"), Owners: []int{63, 32, 1}, Parents: []int{5, -1, 0, 1, 2, 4}}, "\x03\x01b\x02\xc3\xa9\x3f\x20\x01\x06\x06\x00\x01\x02\x03\x05"},
	} {
		if got := RowBytes(c.row); got != c.want {
			t.Errorf("RowBytes(%v): % x, want % x", c.row, got, c.want)
		}
		if got, ok := ReadRow(c.want); !ok || !sameRow(got, c.row) {
			t.Errorf("ReadRow(% x): %v, %t, want %v, true", c.want, got, ok, c.row)
		}
	}
}

func TestRowBytesOfManyRows(t *testing.T) {
	r := rand.New(rand.NewPCG(6, 4))
	encodable := 0
	owners := map[string]api.Row{}
	for range 100000 {
		c := someRow(r)
		want := ""
		if encodableAgain(c) {
			encodable++
			want = encodedRow(c)
		}
		got := RowBytes(c)
		if got != want {
			t.Fatalf("RowBytes(%v): % x, want % x", c, got, want)
		}
		if other, ok := owners[got]; ok && got != "" && !sameRow(c, other) {
			t.Fatalf("% x are the bytes of %v and of %v", got, c, other)
		}
		owners[got] = c
		holdsRow(t, "as encoded", encodedRow(c))
	}
	if encodable < 5000 {
		t.Errorf("only %d rows are encodable", encodable)
	}
}

// All owners and all parents there may be, and those right beside them.
func TestOwnersAndParentsInFull(t *testing.T) {
	for sites := range 9 {
		for owner := -2; owner < 300; owner++ {
			c := api.Row{Ranges: letters(2), Owners: []int{1, owner}, Parents: times(sites, -1)}
			want := sites >= 1 && sites <= 6 && owner >= 1 && owner <= 1<<sites-1
			if got := RowBytes(c); (got != "") != want {
				t.Errorf("RowBytes of owner %d of %d sites: % x", owner, sites, got)
			}
			if got, ok := ReadRow(encodedRow(c)); ok != want || ok && !sameRow(got, c) {
				t.Errorf("ReadRow of owner %d of %d sites: %v, %t", owner, sites, got, ok)
			}
		}
	}
	for parent := -3; parent < 300; parent++ {
		c := api.Row{Ranges: letters(2), Owners: []int{1, 1}, Parents: []int{-1, parent}}
		want := parent >= -1 && parent <= 5
		if got := RowBytes(c); (got != "") != want {
			t.Errorf("RowBytes of parent %d: % x", parent, got)
		}
		if got, ok := ReadRow(encodedRow(c)); ok != want || ok && !sameRow(got, c) {
			t.Errorf("ReadRow of parent %d: %v, %t", parent, got, ok)
		}
	}
}

// As many ranges and sites as there may be, and more.
func TestCountsInFull(t *testing.T) {
	for ranges := 1; ranges <= 12; ranges++ {
		for sites := range 12 {
			c := rowOf(ranges, sites)
			want := ranges <= 8 && sites >= 1 && sites <= 6
			if got := RowBytes(c); (got != "") != want {
				t.Errorf("RowBytes of %d ranges, %d sites: % x", ranges, sites, got)
			}
			if got, ok := ReadRow(encodedRow(c)); ok != want || ok && !sameRow(got, c) {
				t.Errorf("ReadRow of %d ranges, %d sites: %v, %t", ranges, sites, got, ok)
			}
		}
	}
}

func TestReadRow(t *testing.T) {
	for _, n := range rightRows() {
		s := encodedRow(n.c)
		if got, ok := ReadRow(s); !ok || !sameRow(got, n.c) {
			t.Errorf("ReadRow, %s, % x: %v, %t, want %v, true", n.why, s, got, ok, n.c)
		}
		for cut := range len(s) {
			refusesRow(t, n.why+", cut off", s[:cut])
		}
		for _, more := range []string{"\x00", "\x01", "\x80", "\xff", s} {
			refusesRow(t, n.why+", and more", s+more)
		}
		for _, more := range []string{"\x00", "\x09", "\x80", "\xff"} {
			refusesRow(t, n.why+", and more ahead", more+s)
		}
	}
	for _, n := range wrongRows() {
		holdsRow(t, n.why, encodedRow(n.c))
	}
}

func TestReadRowOfNoRow(t *testing.T) {
	most := strings.Repeat("\xff", 9) + "\x01"
	half := strings.Repeat("\x80", 9) + "\x01"
	for _, c := range []struct{ why, s string }{
		{"nothing", ""},
		{"a zero byte", "\x00"},
		{"only zero bytes", "\x00\x00\x00\x00"},
		{"no range", "\x00\x01\x00"},
		{"no range, but an owner", "\x00\x01\x01\x00"},
		{"no site", "\x01\x01\x00"},
		{"nine ranges", encodedRow(rowOf(9, 2))},
		{"seven sites", encodedRow(rowOf(2, 7))},
		{"an owner of 0", "\x01\x00\x01\x00"},
		{"an owner of 2^n", "\x01\x02\x01\x00"},
		{"an owner of 64", "\x01\x40\x06\x00\x00\x00\x00\x00\x00"},
		{"an owner of 2^32 + 1", "\x01\x81\x80\x80\x80\x10\x01\x00"},
		{"an owner of 2^63", "\x01" + half + "\x01\x00"},
		{"an owner of 2^63 + 1", "\x01\x81" + half[1:] + "\x01\x00"},
		{"an owner of 2^64 - 1", "\x01" + most + "\x01\x00"},
		{"a parent of 6", "\x01\x01\x01\x07"},
		{"a parent of 63", "\x01\x01\x01\x40"},
		{"a parent of 2^63 - 1", "\x01\x01\x01" + half},
		{"a parent of 2^64 - 2", "\x01\x01\x01" + most},
		{"a parent of 2^64 - 1, which wraps to -1", "\x01\x01\x01" + strings.Repeat("\x80", 9) + "\x02"},
		{"a count of ranges of 2^32 + 1", "\x81\x80\x80\x80\x10\x01\x01\x00"},
		{"a count of ranges of 2^63", half + "\x01\x01\x00"},
		{"a count of ranges of 2^63 + 1", "\x81" + half[1:] + "\x01\x01\x00"},
		{"a count of ranges of 2^64 - 1", most + "\x01\x01\x00"},
		{"a count of sites of 2^32 + 1", "\x01\x01\x81\x80\x80\x80\x10\x00"},
		{"a count of sites of 2^63", "\x01\x01" + half + "\x00"},
		{"a count of sites of 2^64 - 1", "\x01\x01" + most + "\x00"},
		{"a count of ranges that is too great", "\x03\x01m\x01\x01\x01\x00"},
		{"a count of ranges that is too small", "\x01\x01m\x01\x01\x01\x00"},
		{"a count of sites that is too great", "\x01\x01\x02\x00"},
		{"a count of sites that is too small", "\x01\x01\x01\x00\x00"},
		{"a count of ranges with more bytes than necessary", "\x81\x00\x01\x01\x00"},
		{"a length with more bytes than necessary", "\x02\x81\x00m\x03\x02\x02\x00\x01"},
		{"an owner with more bytes than necessary", "\x01\x81\x00\x01\x00"},
		{"a count of sites with more bytes than necessary", "\x01\x01\x81\x00\x00"},
		{"a parent with more bytes than necessary", "\x01\x01\x01\x80\x00"},
		{"one owner less", "\x02\x01m\x03\x02\x00\x01"},
		{"one owner more", "\x02\x01m\x03\x02\x02\x02\x00\x01"},
		{"an empty bound", "\x02\x00\x01\x01\x01\x00"},
		{"two empty bounds", "\x03\x00\x00\x01\x01\x01\x01\x00"},
		{"an empty bound behind another one", "\x03\x01m\x00\x01\x01\x01\x01\x00"},
		{"an empty bound ahead of another one", "\x03\x00\x01m\x01\x01\x01\x01\x00"},
		{"equal bounds", "\x03\x01m\x01m\x01\x01\x01\x01\x00"},
		{"falling bounds", "\x03\x01m\x01l\x01\x01\x01\x01\x00"},
		{"a bound with rune 20", "\x02\x01 \x01\x01\x01\x00"},
		{"a bound that is not UTF-8", "\x02\x01\xff\x01\x01\x01\x00"},
		{"a bound of 9 runes", "\x02\x09aaaaaaaaa\x01\x01\x01\x00"},
		{"a length of a bound that is too great", "\x02\x7fm\x01\x01\x01\x00"},
		{"a length of a bound of 2^64 - 1", "\x02" + most + "m\x01\x01\x01\x00"},
		{"a bound of the last range too", "\x02\x01m\x01z\x01\x01\x01\x00"},
		{"a version", encoded(plain)},
	} {
		refusesRow(t, c.why, c.s)
	}
}

// P6.3

func TestReadRowOfNeighbours(t *testing.T) {
	for _, n := range rightRows() {
		neighbours(encodedRow(n.c), func(s string) { holdsRow(t, "a byte away from "+n.why, s) })
	}
}

func TestReadRowOfAllShortSequences(t *testing.T) {
	read := 0
	for count := range 9 {
		sequences("\x00\x01\x02\x03m", count, func(s string) {
			holdsRow(t, "a short sequence", s)
			if _, ok := ReadRow(s); ok {
				read++
			}
		})
	}
	sequences("\x00\x01\x02\x06\x07!\x80\x81", 6, func(s string) { holdsRow(t, "a sequence of 6", s) })
	if read < 100 {
		t.Errorf("only %d short sequences are rows", read)
	}
}

// R3

func TestReadRowSharesNothing(t *testing.T) {
	want := rightRows()[5].c
	s := encodedRow(want)
	one, _ := ReadRow(s)
	clear(one.Ranges[:cap(one.Ranges)])
	clear(one.Owners[:cap(one.Owners)])
	if !slices.Equal(one.Parents, want.Parents) {
		t.Errorf("ReadRow: lists of one answer share memory: %v", one)
	}
	clear(one.Parents[:cap(one.Parents)])
	if two, ok := ReadRow(s); !ok || !sameRow(two, want) {
		t.Errorf("ReadRow after an earlier answer was changed: %v, %t", two, ok)
	}
}

func TestRowBytesChangesNothing(t *testing.T) {
	for _, n := range slices.Concat(rightRows(), wrongRows()) {
		c := cloned(n.c)
		RowBytes(c)
		if !sameRow(c, n.c) {
			t.Errorf("RowBytes, %s: the row was changed to %v", n.why, c)
		}
	}
	whole := []int{-1, 0, 1, 2}
	RowBytes(api.Row{Ranges: letters(2), Owners: []int{1, 1}, Parents: whole[:2]})
	if !slices.Equal(whole, []int{-1, 0, 1, 2}) {
		t.Errorf("RowBytes wrote behind the parents: %v", whole)
	}
}

// P1 and R5
func TestLargeRows(t *testing.T) {
	const count = 1 << 20
	long := strings.Repeat("a", count)
	for _, c := range []api.Row{
		{Ranges: make([]api.Range, count), Owners: times(count, 1), Parents: []int{-1}},
		{Ranges: cut("m"), Owners: times(count, 1), Parents: []int{-1}},
		{Ranges: cut("m"), Owners: []int{1, 1}, Parents: times(count, 0)},
		{Ranges: cut(long), Owners: []int{1, 1}, Parents: []int{-1}},
	} {
		if RowBytes(c) != "" {
			t.Errorf("RowBytes of a large row: some, want none")
		}
		if _, ok := ReadRow(encodedRow(c)); ok {
			t.Errorf("ReadRow of a large row: true, want false")
		}
	}
	for _, front := range []string{"", "\x01", "\x08", "\x01\x01", "\x01\x01\x06", "\x02\x01m", "\x80\x80\x80\x02", encodedRow(rowOf(8, 6))} {
		for _, b := range []byte{0x00, 0x01, 0x08, 0x7f, 0x80, 0xff} {
			if _, ok := ReadRow(front + strings.Repeat(string([]byte{b}), count)); ok {
				t.Errorf("ReadRow of % x and many % x: true, want false", front, b)
			}
		}
	}
}
