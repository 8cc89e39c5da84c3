package wire

import (
	"encoding/binary"
	"fmt"
	"math"
	"math/rand/v2"
	"slices"
	"strings"
	"testing"
	"unicode/utf8"

	"archipelago/api"
)

// at is a dependency on a write of any site.
func at(key string, n, site int) api.Dep {
	return api.Dep{Key: key, Stamp: api.Stamp{N: n, Site: site}}
}

// deps is a valid past but for its length: so many keys of three letters, in order.
func deps(count int) []api.Dep {
	p := make([]api.Dep, count)
	for i := range p {
		p[i] = at(fmt.Sprintf("k%02d", i), i+1, i%api.MaxSites)
	}
	return p
}

// plain is the version of the chapter's example.
var plain = api.Version{Key: "a", Value: "b", Stamp: api.Stamp{N: 3, Site: 2}}

// full is a version with something in every field, all of which are as long as they may be.
var full = api.Version{
	Key: strings.Repeat("\U0010ffff", 8), Value: strings.Repeat("\xff", 32), Stamp: api.Stamp{N: 1 << 40, Site: 5}, Past: deps(24),
}

// changed is v after a change.
func changed(v api.Version, change func(*api.Version)) api.Version {
	v.Past = slices.Clone(v.Past)
	change(&v)
	return v
}

// named is a version, and what is particular to it.
type named struct {
	why string
	v   api.Version
}

// right are valid versions: ordinary ones, and those at the edges.
func right() []named {
	set := func(change func(*api.Version)) api.Version { return changed(plain, change) }
	return []named{
		{"the chapter's example", plain},
		{"all as long as it may be", full},
		{"an empty value", set(func(v *api.Version) { v.Value = "" })},
		{"gone, with an empty value", set(func(v *api.Version) { v.Value, v.Gone = "", true })},
		{"gone, with a past", set(func(v *api.Version) { v.Value, v.Gone, v.Past = "", true, deps(3) })},
		{"a value of 31 bytes", set(func(v *api.Version) { v.Value = strings.Repeat("v", 31) })},
		{"a value of 32 bytes", set(func(v *api.Version) { v.Value = strings.Repeat("v", 32) })},
		{"a value of a zero byte", set(func(v *api.Version) { v.Value = "\x00" })},
		{"a value that is not UTF-8", set(func(v *api.Version) { v.Value = "\xff\x80\xc3" })},
		{"a value of 16 runes of two bytes", set(func(v *api.Version) { v.Value = strings.Repeat("é", 16) })},
		{"a key of rune 21", set(func(v *api.Version) { v.Key = "!" })},
		{"a key of 8 runes", set(func(v *api.Version) { v.Key = "aaaaaaaa" })},
		{"a key of 8 runes of four bytes", set(func(v *api.Version) { v.Key = strings.Repeat("\U0001f600", 8) })},
		{"the least timestamp", set(func(v *api.Version) { v.Stamp = api.Stamp{N: 1} })},
		{"the greatest timestamp", set(func(v *api.Version) { v.Stamp = api.Stamp{N: 1 << 40, Site: 5} })},
		{"a timestamp of several bytes", set(func(v *api.Version) { v.Stamp = api.Stamp{N: 300, Site: 1} })},
		{"an empty past", set(func(v *api.Version) { v.Past = []api.Dep{} })},
		{"a past of one", set(func(v *api.Version) { v.Past = []api.Dep{at("c", 1, 0)} })},
		{"a past of 23", set(func(v *api.Version) { v.Past = deps(23) })},
		{"a past of 24", set(func(v *api.Version) { v.Past = deps(24) })},
		// The chapter asks for no order between a version and what it hangs on.
		{"a past with its own key", set(func(v *api.Version) { v.Past = []api.Dep{at("a", 3, 2)} })},
		{"a past with a greater timestamp", set(func(v *api.Version) { v.Past = []api.Dep{at("c", 1<<40, 5)} })},
	}
}

// wrong are versions that are not valid, nearly all by one field alone.
func wrong() []named {
	set := func(change func(*api.Version)) api.Version { return changed(plain, change) }
	return []named{
		{"the zero version", api.Version{}},
		{"an empty key", set(func(v *api.Version) { v.Key = "" })},
		{"a key with rune 20", set(func(v *api.Version) { v.Key = "a b" })},
		{"a key of 9 runes", set(func(v *api.Version) { v.Key = "aaaaaaaaa" })},
		{"a key that is not UTF-8", set(func(v *api.Version) { v.Key = "a\xff" })},
		{"a value of 33 bytes", set(func(v *api.Version) { v.Value = strings.Repeat("v", 33) })},
		{"a value of 17 runes of two bytes", set(func(v *api.Version) { v.Value = strings.Repeat("é", 17) })},
		{"a value of 128 bytes", set(func(v *api.Version) { v.Value = strings.Repeat("v", 128) })},
		{"a long value", set(func(v *api.Version) { v.Value = strings.Repeat("v", 1<<20) })},
		{"gone, with a value", set(func(v *api.Version) { v.Gone = true })},
		{"gone, with a value of a zero byte", set(func(v *api.Version) { v.Gone, v.Value = true, "\x00" })},
		{"gone, with a value of 33 bytes", set(func(v *api.Version) { v.Gone, v.Value = true, strings.Repeat("v", 33) })},
		{"the zero timestamp", set(func(v *api.Version) { v.Stamp = api.Stamp{} })},
		{"the number 0", set(func(v *api.Version) { v.Stamp.N = 0 })},
		{"a number below 0", set(func(v *api.Version) { v.Stamp.N = -1 })},
		{"the least number", set(func(v *api.Version) { v.Stamp.N = math.MinInt })},
		{"a number behind MaxStamp", set(func(v *api.Version) { v.Stamp.N = 1<<40 + 1 })},
		{"the greatest number", set(func(v *api.Version) { v.Stamp.N = math.MaxInt })},
		{"site 6", set(func(v *api.Version) { v.Stamp.Site = 6 })},
		{"site -1", set(func(v *api.Version) { v.Stamp.Site = -1 })},
		{"a past of 25", set(func(v *api.Version) { v.Past = deps(25) })},
		{"a long past", set(func(v *api.Version) { v.Past = deps(1 << 15) })},
		{"a past with equal keys", set(func(v *api.Version) { v.Past = []api.Dep{at("c", 1, 0), at("c", 2, 0)} })},
		{"a past with falling keys", set(func(v *api.Version) { v.Past = []api.Dep{at("c", 1, 0), at("b", 2, 0)} })},
		{"a past with a wrong key", set(func(v *api.Version) { v.Past = []api.Dep{at("", 1, 0)} })},
		{"a past with a wrong timestamp", set(func(v *api.Version) { v.Past = []api.Dep{at("c", 0, 0)} })},
		{"a past with a wrong site", set(func(v *api.Version) { v.Past = []api.Dep{at("b", 1, 0), at("c", 1, 6)} })},
		{"wrong in all fields", api.Version{Key: "\xff", Value: strings.Repeat("v", 40), Gone: true, Past: []api.Dep{{}, {}}}},
	}
}

// What the chapter says, by other means than the program's.

func keyAgain(s string) bool {
	n := utf8.RuneCountInString(s)
	low := func(r rune) bool { return r < 0x21 }
	return utf8.ValidString(s) && n >= 1 && n <= 8 && !strings.ContainsFunc(s, low)
}

func stampAgain(s api.Stamp) bool { return 1 <= s.N && s.N <= 1<<40 && 0 <= s.Site && s.Site <= 5 }

func checkAgain(v api.Version) bool {
	for i, d := range v.Past {
		if !keyAgain(d.Key) || !stampAgain(d.Stamp) || i > 0 && v.Past[i-1].Key >= d.Key {
			return false
		}
	}
	return keyAgain(v.Key) && stampAgain(v.Stamp) && len(v.Past) <= 24 && len(v.Value) <= 32 && !(v.Gone && len(v.Value) > 0)
}

// coder writes the chapter's encodings by the library of Go, of what is not valid too.
type coder struct{ out []byte }

func (c *coder) number(n int) { c.out = binary.AppendUvarint(c.out, uint64(n)) }

func (c *coder) text(s string) {
	c.number(len(s))
	c.out = append(c.out, s...)
}

func encoded(v api.Version) string {
	var c coder
	c.text(v.Key)
	if v.Gone {
		c.number(1)
	} else {
		c.number(0)
	}
	c.text(v.Value)
	c.number(v.Stamp.N)
	c.number(v.Stamp.Site)
	c.number(len(v.Past))
	for _, d := range v.Past {
		c.text(d.Key)
		c.number(d.Stamp.N)
		c.number(d.Stamp.Site)
	}
	return string(c.out)
}

// decoder reads them by the library of Go, which takes encodings that are longer than they must be too.
type decoder struct {
	s   []byte
	bad bool
}

func (d *decoder) number() int {
	n, long := binary.Uvarint(d.s)
	d.bad = d.bad || long <= 0 || n > math.MaxInt
	if d.bad {
		return 0
	}
	d.s = d.s[long:]
	return int(n)
}

func (d *decoder) text() string {
	n := d.number()
	if d.bad || n > len(d.s) {
		d.bad = true
		return ""
	}
	t := string(d.s[:n])
	d.s = d.s[n:]
	return t
}

// readAgain holds what it decodes against its own encoding, so that no other bytes are taken for it.
func readAgain(s string) (api.Version, bool) {
	d := &decoder{s: []byte(s)}
	v := api.Version{Key: d.text(), Gone: d.number() == 1, Value: d.text()}
	v.Stamp = api.Stamp{N: d.number(), Site: d.number()}
	for n := d.number(); n > 0 && !d.bad; n-- {
		v.Past = append(v.Past, at(d.text(), d.number(), d.number()))
	}
	if d.bad || !checkAgain(v) || encoded(v) != s {
		return api.Version{}, false
	}
	return v, true
}

func sameAgain(a, b api.Version) bool {
	return a.Key == b.Key && a.Value == b.Value && a.Gone == b.Gone && a.Stamp == b.Stamp && slices.Equal(a.Past, b.Past)
}

// zero reports whether nothing is in v, not even an empty past.
func zero(v api.Version) bool { return sameAgain(v, api.Version{}) && v.Past == nil }

// holds holds what Read answers against what the chapter says.
func holds(t *testing.T, why, s string) {
	t.Helper()
	got, ok := Read(s)
	want, fine := readAgain(s)
	if ok != fine || !sameAgain(got, want) || !ok && !zero(got) {
		t.Fatalf("Read, %s, % x: %v, %t, want %v, %t", why, s, got, ok, want, fine)
	}
	if ok && Bytes(got) != s {
		t.Fatalf("Read, %s, % x: %v, whose bytes are % x", why, s, got, Bytes(got))
	}
}

// refuses tells of a Read that does not answer the zero version and false.
func refuses(t *testing.T, why, s string) {
	t.Helper()
	if v, ok := Read(s); ok || !zero(v) {
		t.Errorf("Read, %s, % x: %v, %t, want the zero version, false", why, s, v, ok)
	}
}

// sequences calls with all sequences of so many of the bytes.
func sequences(bytes string, count int, call func(s string)) {
	s := make([]byte, count)
	var fill func(from int)
	fill = func(from int) {
		if from == count {
			call(string(s))
			return
		}
		for i := range len(bytes) {
			s[from] = bytes[i]
			fill(from + 1)
		}
	}
	fill(0)
}

// neighbours calls with all strings that are one byte away from s: one less, one more, one other.
func neighbours(s string, call func(s string)) {
	for i := range len(s) + 1 {
		for b := range 256 {
			call(s[:i] + string([]byte{byte(b)}) + s[i:])
			if i < len(s) && s[i] != byte(b) {
				call(s[:i] + string([]byte{byte(b)}) + s[i+1:])
			}
		}
		if i < len(s) {
			call(s[:i] + s[i+1:])
		}
	}
}

// some is a version of few different parts, valid or not.
func some(r *rand.Rand) api.Version {
	pick := func(l ...string) string { return l[r.IntN(len(l))] }
	key := func() string { return pick("a", "a", "b", "ba", "é", "zzzzzzzz", "", "a b", "aaaaaaaaa", "\xff") }
	number := func() int { return []int{1, 1, 2, 300, 1 << 40, 0, 1<<40 + 1, -1}[r.IntN(8)] }
	stamp := func() api.Stamp { return api.Stamp{N: number(), Site: r.IntN(8) - 1} }
	v := api.Version{Key: key(), Gone: r.IntN(4) == 0, Value: pick("", "", "v", strings.Repeat("v", 32), strings.Repeat("v", 33)), Stamp: stamp()}
	for range r.IntN(4) {
		v.Past = append(v.Past, api.Dep{Key: key(), Stamp: stamp()})
	}
	return v
}

// P6.1

func TestCheckAndBytes(t *testing.T) {
	for _, c := range right() {
		if !Check(c.v) || !checkAgain(c.v) {
			t.Errorf("Check, %s, %v: false, want true", c.why, c.v)
		}
		if got, want := Bytes(c.v), encoded(c.v); got != want {
			t.Errorf("Bytes, %s, %v: % x, want % x", c.why, c.v, got, want)
		}
	}
	for _, c := range wrong() {
		if Check(c.v) || checkAgain(c.v) {
			t.Errorf("Check, %s: true, want false", c.why)
		}
		if got := Bytes(c.v); got != "" {
			t.Errorf("Bytes, %s: % x, want none", c.why, got)
		}
	}
}

func TestBytesInFull(t *testing.T) {
	for _, c := range []struct {
		v    api.Version
		want string
	}{
		{plain, "\x01a\x00\x01b\x03\x02\x00"},
		{api.Version{Key: "k", Gone: true, Stamp: api.Stamp{N: 300, Site: 1}, Past: []api.Dep{at("a", 2, 0)}}, "\x01k\x01\x00\xac\x02\x01\x01\x01a\x02\x00"},
		{api.Version{Key: "é", Stamp: api.Stamp{N: 1 << 40, Site: 5}}, "\x02\xc3\xa9\x00\x00\x80\x80\x80\x80\x80\x20\x05\x00"},
		{api.Version{Key: "b", Value: "\x00\xff", Stamp: api.Stamp{N: 1}, Past: []api.Dep{at("b", 1, 4), at("ba", 128, 0)}}, "\x01b\x00\x02\x00\xff\x01\x00\x02\x01b\x01\x04\x02ba\x80\x01\x00"},
		{api.Version{Key: "a", Value: strings.Repeat("v", 32), Stamp: api.Stamp{N: 1}}, "\x01a\x00 " + strings.Repeat("v", 32) + "\x01\x00\x00"},
	} {
		if got := Bytes(c.v); got != c.want {
			t.Errorf("Bytes(%v): % x, want % x", c.v, got, c.want)
		}
		if got, ok := Read(c.want); !ok || !sameAgain(got, c.v) {
			t.Errorf("Read(% x): %v, %t, want %v, true", c.want, got, ok, c.v)
		}
	}
}

func TestCheckAndBytesOfManyVersions(t *testing.T) {
	r := rand.New(rand.NewPCG(6, 1))
	valid := 0
	for range 100000 {
		v := some(r)
		want := ""
		if checkAgain(v) {
			valid++
			want = encoded(v)
		}
		if got := Check(v); got != (want != "") {
			t.Fatalf("Check(%v): %t", v, got)
		}
		if got := Bytes(v); got != want {
			t.Fatalf("Bytes(%v): % x, want % x", v, got, want)
		}
		holds(t, "as encoded", encoded(v))
	}
	if valid < 5000 {
		t.Errorf("only %d versions are valid", valid)
	}
}

func TestRead(t *testing.T) {
	for _, c := range right() {
		s := encoded(c.v)
		if got, ok := Read(s); !ok || !sameAgain(got, c.v) {
			t.Errorf("Read, %s, % x: %v, %t, want %v, true", c.why, s, got, ok, c.v)
		}
		for cut := range len(s) {
			refuses(t, c.why+", cut off", s[:cut])
			refuses(t, c.why+", cut off ahead", s[cut+1:])
		}
		for _, more := range []string{"\x00", "\x01", "\x80", "\xff", s} {
			refuses(t, c.why+", and more", s+more)
			refuses(t, c.why+", and more ahead", more+s)
		}
	}
	for _, c := range wrong() {
		refuses(t, c.why, encoded(c.v))
	}
}

func TestReadOfNoVersion(t *testing.T) {
	for _, c := range []struct{ why, s string }{
		{"nothing", ""},
		{"a zero byte", "\x00"},
		{"only zero bytes", "\x00\x00\x00\x00\x00\x00"},
		{"a key and nothing else", "\x01a"},
		{"gone of 2", "\x01a\x02\x00\x03\x02\x00"},
		{"gone of 3", "\x01a\x03\x00\x03\x02\x00"},
		{"gone of 127", "\x01a\x7f\x00\x03\x02\x00"},
		{"gone of 128", "\x01a\x80\x01\x00\x03\x02\x00"},
		{"gone of 256", "\x01a\x80\x02\x00\x03\x02\x00"},
		{"gone of 2^32", "\x01a\x80\x80\x80\x80\x10\x00\x03\x02\x00"},
		{"gone of 2^32 + 1", "\x01a\x81\x80\x80\x80\x10\x00\x03\x02\x00"},
		{"gone of 2^63", "\x01a" + strings.Repeat("\x80", 9) + "\x01\x00\x03\x02\x00"},
		{"gone of 2^63 + 1", "\x01a\x81" + strings.Repeat("\x80", 8) + "\x01\x00\x03\x02\x00"},
		{"gone of 2^64 - 1", "\x01a" + strings.Repeat("\xff", 9) + "\x01\x00\x03\x02\x00"},
		{"gone of 2^64, which wraps to 0", "\x01a" + strings.Repeat("\x80", 9) + "\x02\x01b\x03\x02\x00"},
		{"gone with a value", "\x01a\x01\x01b\x03\x02\x00"},
		{"a length of the key with more bytes than necessary", "\x81\x00a\x00\x01b\x03\x02\x00"},
		{"gone of 0 with more bytes than necessary", "\x01a\x80\x00\x01b\x03\x02\x00"},
		{"gone of 1 with more bytes than necessary", "\x01a\x81\x00\x00\x03\x02\x00"},
		{"a length of the value with more bytes than necessary", "\x01a\x00\x81\x00b\x03\x02\x00"},
		{"a length of an empty value with more bytes than necessary", "\x01a\x00\x80\x00\x03\x02\x00"},
		{"a number with more bytes than necessary", "\x01a\x00\x01b\x83\x00\x02\x00"},
		{"a site with more bytes than necessary", "\x01a\x00\x01b\x03\x82\x00\x00"},
		{"a count of the past with more bytes than necessary", "\x01a\x00\x01b\x03\x02\x80\x00"},
		{"a count of one with more bytes than necessary", "\x01a\x00\x01b\x03\x02\x81\x00\x01c\x01\x00"},
		{"a length in the past with more bytes than necessary", "\x01a\x00\x01b\x03\x02\x01\x81\x00c\x01\x00"},
		{"a number in the past with more bytes than necessary", "\x01a\x00\x01b\x03\x02\x01\x01c\x81\x00\x00"},
		{"a site in the past with more bytes than necessary", "\x01a\x00\x01b\x03\x02\x01\x01c\x01\x80\x00"},
		{"a length of the key that is too great", "\x7fa\x00\x01b\x03\x02\x00"},
		{"a length of the key of 2^63", strings.Repeat("\x80", 9) + "\x01a\x00\x01b\x03\x02\x00"},
		{"a length of the key of 2^64 - 1", strings.Repeat("\xff", 9) + "\x01a\x00\x01b\x03\x02\x00"},
		{"a length of the value that is too great", "\x01a\x00\x20b\x03\x02\x00"},
		{"a length of the value of 2^64 - 1", "\x01a\x00" + strings.Repeat("\xff", 9) + "\x01b\x03\x02\x00"},
		{"a count of the past that is too great", "\x01a\x00\x01b\x03\x02\x02\x01c\x01\x00"},
		{"a count of the past that is too small", "\x01a\x00\x01b\x03\x02\x00\x01c\x01\x00"},
		{"a count of the past of 25", "\x01a\x00\x01b\x03\x02\x19"},
		{"a count of the past of 2^64 - 1", "\x01a\x00\x01b\x03\x02" + strings.Repeat("\xff", 9) + "\x01"},
		{"no value", "\x01a\x00\x03\x02\x00"},
		{"no timestamp", "\x01a\x00\x01b\x00"},
		{"no past", "\x01a\x00\x01b\x03\x02"},
		{"a row", "\x02\x01m\x03\x02\x02\x00\x01"},
	} {
		refuses(t, c.why, c.s)
	}
}

// P6.3

func TestReadOfNeighbours(t *testing.T) {
	for _, c := range right() {
		neighbours(encoded(c.v), func(s string) { holds(t, "a byte away from "+c.why, s) })
	}
}

func TestReadOfAllShortSequences(t *testing.T) {
	read := 0
	for count := range 9 {
		sequences("\x00\x01\x02a\x80", count, func(s string) {
			holds(t, "a short sequence", s)
			if _, ok := Read(s); ok {
				read++
			}
		})
	}
	sequences("\x00\x01\x06a\x81 !", 7, func(s string) { holds(t, "a sequence of 7", s) })
	if read < 10 {
		t.Errorf("only %d short sequences are versions", read)
	}
}

// Versions that differ have bytes that differ.
func TestBytesOfPairs(t *testing.T) {
	owners := map[string]api.Version{}
	r := rand.New(rand.NewPCG(6, 2))
	for range 100000 {
		v := some(r)
		s := Bytes(v)
		if other, ok := owners[s]; ok && s != "" && !sameAgain(v, other) {
			t.Fatalf("% x are the bytes of %v and of %v", s, v, other)
		}
		owners[s] = v
	}
}

func TestSame(t *testing.T) {
	base := changed(plain, func(v *api.Version) { v.Past = []api.Dep{at("a", 1, 0), at("b", 2, 3)} })
	for why, change := range map[string]func(v *api.Version){
		"another key":                    func(v *api.Version) { v.Key = "b" },
		"a key that goes on":             func(v *api.Version) { v.Key = "aa" },
		"no key":                         func(v *api.Version) { v.Key = "" },
		"another value":                  func(v *api.Version) { v.Value = "c" },
		"no value":                       func(v *api.Version) { v.Value = "" },
		"key and value swapped":          func(v *api.Version) { v.Key, v.Value = v.Value, v.Key },
		"gone":                           func(v *api.Version) { v.Gone = true },
		"another number":                 func(v *api.Version) { v.Stamp.N++ },
		"another site":                   func(v *api.Version) { v.Stamp.Site++ },
		"number and site swapped":        func(v *api.Version) { v.Stamp = api.Stamp{N: v.Stamp.Site, Site: v.Stamp.N} },
		"no past":                        func(v *api.Version) { v.Past = nil },
		"one dependency less":            func(v *api.Version) { v.Past = v.Past[:1] },
		"one dependency more":            func(v *api.Version) { v.Past = append(v.Past, at("c", 1, 0)) },
		"another key of a dependency":    func(v *api.Version) { v.Past[1].Key = "c" },
		"another number of a dependency": func(v *api.Version) { v.Past[1].Stamp.N++ },
		"another site of a dependency":   func(v *api.Version) { v.Past[1].Stamp.Site++ },
		"another order of dependencies":  func(v *api.Version) { slices.Reverse(v.Past) },
	} {
		if other := changed(base, change); Same(base, other) || Same(other, base) {
			t.Errorf("Same, %s, %v and %v: true, want false", why, base, other)
		}
	}
	for _, c := range slices.Concat(right(), wrong()) {
		if other := changed(c.v, func(*api.Version) {}); !Same(c.v, other) || !Same(other, c.v) {
			t.Errorf("Same, %s, and a copy: false, want true", c.why)
		}
	}
	if bare := changed(plain, func(v *api.Version) { v.Past = []api.Dep{} }); !Same(plain, bare) || !Same(bare, plain) {
		t.Errorf("Same of a nil and of an empty past: false, want true")
	}
}

func TestSameOfManyPairs(t *testing.T) {
	r := rand.New(rand.NewPCG(6, 3))
	var l []api.Version
	for range 700 {
		l = append(l, some(r))
	}
	for _, a := range l {
		for _, b := range l {
			if got, want := Same(a, b), sameAgain(a, b); got != want {
				t.Fatalf("Same(%v, %v): %t, want %t", a, b, got, want)
			}
		}
	}
}

// R3

func TestReadSharesNothing(t *testing.T) {
	s := encoded(full)
	one, _ := Read(s)
	clear(one.Past[:cap(one.Past)])
	if two, ok := Read(s); !ok || !sameAgain(two, full) {
		t.Errorf("Read after an earlier answer was changed: %v, %t", two, ok)
	}
}

func TestQueriesChangeNothing(t *testing.T) {
	for _, c := range slices.Concat(right(), wrong()) {
		v := changed(c.v, func(*api.Version) {})
		Check(v)
		Bytes(v)
		Same(v, v)
		if !sameAgain(v, c.v) {
			t.Errorf("%s: the version was changed", c.why)
		}
	}
}

// P1 and R5: size alone must neither stop a call nor slow it down out of proportion.
func TestLargeInputs(t *testing.T) {
	const count = 1 << 20
	long := strings.Repeat("a", count)
	large := api.Version{Key: long, Value: long, Stamp: plain.Stamp, Past: make([]api.Dep, count)}
	other := changed(large, func(v *api.Version) { v.Past[count-1].Key = "a" })
	if Check(large) || Bytes(large) != "" || !Same(large, large) || Same(large, other) {
		t.Errorf("a large version is valid, or not the same as itself, or the same as another one")
	}
	for _, front := range []string{"", "\x01a", "\x01a\x00", "\x01a\x00\x01b", "\x01a\x00\x01b\x03\x02", encoded(plain), encoded(full)} {
		for _, b := range []byte{0x00, 0x01, 0x61, 0x7f, 0x80, 0xff} {
			refuses(t, "many bytes", front+strings.Repeat(string([]byte{b}), 1<<10))
			if _, ok := Read(front + strings.Repeat(string([]byte{b}), count)); ok {
				t.Errorf("Read of % x and many % x: true, want false", front, b)
			}
		}
	}
	for _, v := range []api.Version{{Key: long, Stamp: plain.Stamp}, {Key: "a", Value: long, Stamp: plain.Stamp}} {
		if _, ok := Read(encoded(v)); ok {
			t.Errorf("Read of a long key or value: true, want false")
		}
	}
}

func FuzzWire(f *testing.F) {
	f.Add("\x01a\x00\x01b\x03\x02\x00", "a", "b", false, 3, 2)
	f.Add("\x02\x01m\x03\x02\x02\x00\x01", "b\xff", "", true, 1<<40+1, 6)
	f.Fuzz(func(t *testing.T, s, key, value string, gone bool, n, site int) {
		holds(t, "some bytes", s)
		holdsRow(t, "some bytes", s)
		v := api.Version{Key: key, Value: value, Gone: gone, Stamp: api.Stamp{N: n, Site: site}, Past: []api.Dep{at(key, n, site)}}
		if got, want := Check(v), checkAgain(v); got != want || got != (Bytes(v) != "") || got && Bytes(v) != encoded(v) {
			t.Errorf("Check(%v): %t, want %t; Bytes: % x", v, got, want, Bytes(v))
		}
		holds(t, "a version", encoded(v))
	})
}
