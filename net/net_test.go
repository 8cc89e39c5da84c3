package net

import (
	"math"
	"math/rand/v2"
	"slices"
	"strconv"
	"strings"
	"testing"

	"archipelago/api"
)

// strange are numbers that no site and no index of a test has.
func strange() []int {
	return []int{math.MinInt, math.MinInt + 1, -1 << 32, -1 << 31, -257, -256, -32, -7, -6, -2, -1, 64, 256, 257, 1 << 31, 1 << 32, math.MaxInt - 1, math.MaxInt}
}

// way is what a session is to be, reckoned from what was done to it: the strings that were sent, how many of them were taken, and the numbers of those in transit.
type way struct {
	sent   []string
	taken  int
	flying []int
}

// send is what Send is to answer.
func (w *way) send(data string) api.Errno {
	if len(w.sent)-w.taken == 8 {
		return 15
	}
	w.flying = append(w.flying, len(w.sent))
	w.sent = append(w.sent, data)
	return 0
}

// takes is what Takes is to answer.
func (w *way) takes(at int) (string, bool) {
	if at < 0 || at >= len(w.flying) || w.flying[at] != w.taken {
		return "", false
	}
	return w.sent[w.taken], true
}

// pick is what Pick is to answer.
func (w *way) pick(at, how int) (string, bool) {
	if at < 0 || at >= len(w.flying) {
		return "", false
	}
	action := (how%4 + 4) % 4
	if action == 2 {
		if len(w.flying) < 32 {
			w.flying = append(w.flying, w.flying[at])
		}
		return "", false
	}
	data, ok := w.takes(at)
	w.flying = slices.Delete(slices.Clone(w.flying), at, at+1)
	if action == 1 || !ok {
		return "", false
	}
	w.taken++
	return data, true
}

// again is what Again is to answer.
func (w *way) again() int {
	count := 0
	for i := w.taken; i < len(w.sent) && len(w.flying) < 32; i++ {
		w.flying = append(w.flying, i)
		count++
	}
	return count
}

// packets is the packets in transit.
func (w *way) packets() []api.Packet {
	var l []api.Packet
	for _, i := range w.flying {
		l = append(l, api.Packet{Seq: i, Data: w.sent[i]})
	}
	return l
}

// world is a network, and what it is to be.
type world struct {
	n     *Net
	sites int
	ways  map[[2]int]*way
}

// start is a new world.
func start(t *testing.T, sites int) *world {
	t.Helper()
	w := &world{n: New(sites), sites: sites, ways: map[[2]int]*way{}}
	for i := range sites * sites {
		if a, b := i/sites, i%sites; a != b {
			w.ways[[2]int{a, b}] = &way{}
		}
	}
	w.stands(t, "at the start")
	return w
}

// stands tells of a network that is not what the world says.
func (w *world) stands(t *testing.T, why string) {
	t.Helper()
	idle := true
	for pair, x := range w.ways {
		a, b := pair[0], pair[1]
		if got, want := w.n.Flying(a, b), x.packets(); !slices.Equal(got, want) {
			t.Fatalf("%s: in transit from %d to %d: %v, want %v", why, a, b, got, want)
		}
		open := len(x.sent) - x.taken
		if got := w.n.Open(a, b); got != open {
			t.Fatalf("%s: open from %d to %d: %d, want %d", why, a, b, got, open)
		}
		idle = idle && open == 0
		for at := -1; at <= len(x.flying); at++ {
			data, ok := w.n.Takes(a, b, at)
			if d, o := x.takes(at); data != d || ok != o {
				t.Fatalf("%s: Takes(%d, %d, %d): %q, %t, want %q, %t", why, a, b, at, data, ok, d, o)
			}
		}
	}
	if got := w.n.Idle(); got != idle {
		t.Fatalf("%s: idle %t, want %t", why, got, idle)
	}
}

// sends sends in both, and tells of an answer that is not what the world says.
func (w *world) sends(t *testing.T, why string, a, b int, data string) {
	t.Helper()
	got := w.n.Send(a, b, data)
	if want := w.ways[[2]int{a, b}].send(data); got != want {
		t.Fatalf("%s: Send(%d, %d, %q): %d, want %d", why, a, b, data, int(got), int(want))
	}
	w.stands(t, why)
}

// picks picks in both, and tells of an answer that is not what the world says.
func (w *world) picks(t *testing.T, why string, a, b, at, how int) {
	t.Helper()
	data, ok := w.n.Pick(a, b, at, how)
	if d, o := w.ways[[2]int{a, b}].pick(at, how); data != d || ok != o {
		t.Fatalf("%s: Pick(%d, %d, %d, %d): %q, %t, want %q, %t", why, a, b, at, how, data, ok, d, o)
	}
	w.stands(t, why)
}

// agains sends once more in both, and tells of an answer that is not what the world says.
func (w *world) agains(t *testing.T, why string, a, b int) {
	t.Helper()
	got := w.n.Again(a, b)
	if want := w.ways[[2]int{a, b}].again(); got != want {
		t.Fatalf("%s: Again(%d, %d): %d, want %d", why, a, b, got, want)
	}
	w.stands(t, why)
}

// nothing tells of a method that answers something for a pair of sites that has no session.
func nothing(t *testing.T, n *Net, a, b int) {
	t.Helper()
	if err := n.Send(a, b, "x"); err != api.ErrArg {
		t.Errorf("Send(%d, %d): %d, want 1", a, b, int(err))
	}
	if l := n.Flying(a, b); len(l) != 0 {
		t.Errorf("Flying(%d, %d): %v, want none", a, b, l)
	}
	for at := -1; at < 2; at++ {
		for how := -4; how < 5; how++ {
			if data, ok := n.Pick(a, b, at, how); data != "" || ok {
				t.Errorf("Pick(%d, %d, %d, %d): %q, %t, want nothing", a, b, at, how, data, ok)
			}
		}
		if data, ok := n.Takes(a, b, at); data != "" || ok {
			t.Errorf("Takes(%d, %d, %d): %q, %t, want nothing", a, b, at, data, ok)
		}
	}
	if again, open := n.Again(a, b), n.Open(a, b); again != 0 || open != 0 {
		t.Errorf("Again(%d, %d), Open: %d, %d, want 0, 0", a, b, again, open)
	}
}

// is tells of packets in transit from 0 to 1 that are not these.
func is(t *testing.T, why string, n *Net, packets ...api.Packet) {
	t.Helper()
	if got := n.Flying(0, 1); !slices.Equal(got, packets) {
		t.Fatalf("%s: in transit %v, want %v", why, got, packets)
	}
}

// gives tells of a Pick from 0 to 1 that does not answer this, or of a Takes ahead of it that does not.
func gives(t *testing.T, why string, n *Net, at, how int, data string, ok bool) {
	t.Helper()
	if how&3 == 0 || how&3 == 3 {
		if d, o := n.Takes(0, 1, at); d != data || o != ok {
			t.Fatalf("%s: Takes(0, 1, %d): %q, %t, want %q, %t", why, at, d, o, data, ok)
		}
	}
	if d, o := n.Pick(0, 1, at, how); d != data || o != ok {
		t.Fatalf("%s: Pick(0, 1, %d, %d): %q, %t, want %q, %t", why, at, how, d, o, data, ok)
	}
}

// sent is a network of two sites in which these strings were sent from 0 to 1.
func sent(t *testing.T, data ...string) *Net {
	t.Helper()
	n := New(2)
	for _, s := range data {
		if err := n.Send(0, 1, s); err != api.OK {
			t.Fatalf("Send(0, 1, %q): %d", s, int(err))
		}
	}
	return n
}

// crowd is a network of two sites in which that many packets are in transit from 0 to 1, the last ones of which are open.
func crowd(t *testing.T, flying, open int) *Net {
	t.Helper()
	n := sent(t, "old")
	for range 31 {
		gives(t, "crowd", n, 0, 2, "", false)
	}
	// What is left of the first packet was acknowledged; it stays in transit.
	gives(t, "crowd", n, 0, 0, "old", true)
	gives(t, "crowd", n, 0, 2, "", false)
	for len(n.Flying(0, 1)) > flying-open {
		gives(t, "crowd", n, 0, 1, "", false)
	}
	for i := range open {
		if err := n.Send(0, 1, "new"+strconv.Itoa(i)); err != api.OK {
			t.Fatalf("crowd: Send: %d", int(err))
		}
	}
	if got, o := len(n.Flying(0, 1)), n.Open(0, 1); got != flying || o != open {
		t.Fatalf("crowd: %d in transit, %d open, want %d, %d", got, o, flying, open)
	}
	return n
}

// P11.1

func TestNew(t *testing.T) {
	for _, sites := range append(strange(), 0, 7, 8) {
		if n := New(sites); n != nil {
			t.Errorf("New(%d): %v, want nil", sites, n)
		}
	}
	for sites := 1; sites <= 6; sites++ {
		n := New(sites)
		if n == nil || !n.Idle() {
			t.Fatalf("New(%d): %v", sites, n)
		}
		for a := range sites {
			for b := range sites {
				if a == b {
					continue
				}
				if l, open := n.Flying(a, b), n.Open(a, b); len(l) != 0 || open != 0 {
					t.Errorf("New(%d): from %d to %d %v in transit, %d open", sites, a, b, l, open)
				}
				if err := n.Send(a, b, "x"); err != api.OK {
					t.Errorf("New(%d): Send(%d, %d): %d", sites, a, b, int(err))
				}
			}
		}
	}
	if one, two := New(3), New(3); one == two || one.Send(0, 1, "x") != api.OK || !two.Idle() || len(two.Flying(0, 1)) != 0 {
		t.Errorf("two new networks are not two")
	}
}

func TestSitesThatDoNotExistAndEqualOnes(t *testing.T) {
	for sites := 1; sites <= 6; sites++ {
		w := start(t, sites)
		for pair := range w.ways {
			w.sends(t, "some", pair[0], pair[1], "x")
		}
		odd := append(strange(), sites, sites+1)
		for _, x := range odd {
			for a := range sites {
				nothing(t, w.n, a, x)
				nothing(t, w.n, x, a)
				nothing(t, w.n, a, a)
			}
			for _, y := range odd {
				nothing(t, w.n, x, y)
			}
		}
		w.stands(t, "after calls for no session")
		if got := w.n.Idle(); got != (sites == 1) {
			t.Errorf("%d sites: idle %t", sites, got)
		}
	}
}

func TestSendAppendsToThoseInTransit(t *testing.T) {
	n := New(2)
	var want []api.Packet
	for i, data := range []string{"a", "", "a", "b\x00", "\xff\xfe", "é", strings.Repeat("long", 1000), "last"} {
		want = append(want, api.Packet{Seq: i, Data: data})
		if err := n.Send(0, 1, data); err != api.OK || n.Open(0, 1) != i+1 || n.Idle() {
			t.Errorf("Send(0, 1, %q): %d, then %d open, idle %t", data, int(err), n.Open(0, 1), n.Idle())
		}
		is(t, "after Send", n, want...)
	}
	if l, open := n.Flying(1, 0), n.Open(1, 0); len(l) != 0 || open != 0 {
		t.Errorf("the other way: %v in transit, %d open", l, open)
	}
}

func TestNinthOpenString(t *testing.T) {
	n := sent(t, "0", "1", "2", "3", "4", "5", "6", "7")
	had := n.Flying(0, 1)
	for range 20 {
		if err := n.Send(0, 1, "ninth"); err != api.ErrFull {
			t.Fatalf("the ninth string: %d, want 15", int(err))
		}
		is(t, "after the ninth string", n, had...)
	}
	// What is in transit makes no room, and takes none: neither loss, nor copies, nor what comes ahead of its turn.
	gives(t, "full", n, 7, 0, "", false)
	gives(t, "full", n, 6, 1, "", false)
	gives(t, "full", n, 5, 2, "", false)
	if err := n.Send(0, 1, "ninth"); err != api.ErrFull || n.Open(0, 1) != 8 {
		t.Fatalf("the ninth string, nothing being acknowledged: %d, %d open, want 15, 8", int(err), n.Open(0, 1))
	}
	// The other session is not full.
	if err := n.Send(1, 0, "back"); err != api.OK {
		t.Fatalf("the other way: %d, want 0", int(err))
	}
	gives(t, "full", n, 0, 0, "0", true)
	if err := n.Send(0, 1, "ninth"); err != api.OK || n.Open(0, 1) != 8 {
		t.Fatalf("the ninth string, with room for it: %d, %d open, want 0, 8", int(err), n.Open(0, 1))
	}
	if l := n.Flying(0, 1); l[len(l)-1] != (api.Packet{Seq: 8, Data: "ninth"}) {
		t.Errorf("the ninth string: in transit %v", l)
	}
	if err := n.Send(0, 1, "tenth"); err != api.ErrFull {
		t.Errorf("the tenth string: %d, want 15", int(err))
	}
}

// Sending is not limited by what is in transit, but by what is open.
func TestSendWhileManyAreInTransit(t *testing.T) {
	n := crowd(t, 32, 0)
	for i := range 8 {
		if err := n.Send(0, 1, "x"); err != api.OK || len(n.Flying(0, 1)) != 33+i || n.Open(0, 1) != i+1 {
			t.Fatalf("Send number %d: %d, then %d in transit, %d open", i, int(err), len(n.Flying(0, 1)), n.Open(0, 1))
		}
	}
	if err := n.Send(0, 1, "x"); err != api.ErrFull || len(n.Flying(0, 1)) != 40 {
		t.Errorf("Send number 8: %d, then %d in transit, want 15, 40", int(err), len(n.Flying(0, 1)))
	}
}

func TestOpenIsWhatIsNotAcknowledged(t *testing.T) {
	n := sent(t, "a", "b", "c")
	for i, data := range []string{"a", "b", "c"} {
		if n.Open(0, 1) != 3-i || n.Idle() {
			t.Errorf("%d open, idle %t, want %d, false", n.Open(0, 1), n.Idle(), 3-i)
		}
		gives(t, "open", n, 0, 0, data, true)
	}
	if n.Open(0, 1) != 0 || !n.Idle() {
		t.Errorf("%d open, idle %t, want 0, true", n.Open(0, 1), n.Idle())
	}
}

// P11.2

func TestActions(t *testing.T) {
	x, y, z := api.Packet{Seq: 0, Data: "x"}, api.Packet{Seq: 1, Data: "y"}, api.Packet{Seq: 2, Data: "z"}
	for _, c := range []struct {
		why    string
		at     int
		action int
		data   string
		ok     bool
		flying []api.Packet
		open   int
	}{
		{"delivered, the first one", 0, 0, "x", true, []api.Packet{y, z}, 2},
		{"delivered, ahead of its turn", 1, 0, "", false, []api.Packet{x, z}, 3},
		{"delivered, the last one", 2, 0, "", false, []api.Packet{x, y}, 3},
		{"lost, the first one", 0, 1, "", false, []api.Packet{y, z}, 3},
		{"lost, one between", 1, 1, "", false, []api.Packet{x, z}, 3},
		{"lost, the last one", 2, 1, "", false, []api.Packet{x, y}, 3},
		{"duplicated, the first one", 0, 2, "", false, []api.Packet{x, y, z, x}, 3},
		{"duplicated, one between", 1, 2, "", false, []api.Packet{x, y, z, y}, 3},
		{"duplicated, the last one", 2, 2, "", false, []api.Packet{x, y, z, z}, 3},
		{"delivered by 3, the first one", 0, 3, "x", true, []api.Packet{y, z}, 2},
		{"delivered by 3, the last one", 2, 3, "", false, []api.Packet{x, y}, 3},
		{"behind the last one, delivered", 3, 0, "", false, []api.Packet{x, y, z}, 3},
		{"behind the last one, lost", 3, 1, "", false, []api.Packet{x, y, z}, 3},
		{"behind the last one, duplicated", 3, 2, "", false, []api.Packet{x, y, z}, 3},
		{"behind the last one, delivered by 3", 3, 3, "", false, []api.Packet{x, y, z}, 3},
		{"below 0, delivered", -1, 0, "", false, []api.Packet{x, y, z}, 3},
		{"below 0, lost", -1, 1, "", false, []api.Packet{x, y, z}, 3},
		{"below 0, duplicated", -1, 2, "", false, []api.Packet{x, y, z}, 3},
		{"below 0, delivered by 3", -1, 3, "", false, []api.Packet{x, y, z}, 3},
	} {
		for _, turn := range []int{0, 4, 8, -4, -8, 1 << 20, -1 << 20, 1 << 40, math.MinInt, math.MaxInt - 3} {
			n := sent(t, "x", "y", "z")
			why := c.why + ", how " + strconv.Itoa(turn+c.action)
			gives(t, why, n, c.at, turn+c.action, c.data, c.ok)
			is(t, why, n, c.flying...)
			if n.Open(0, 1) != c.open {
				t.Errorf("%s: %d open, want %d", why, n.Open(0, 1), c.open)
			}
		}
	}
}

func TestNegativeHow(t *testing.T) {
	for how, flying := range map[int]int{-1: 0, -2: 2, -3: 0, -4: 0, -5: 0, -6: 2, math.MinInt: 0, math.MinInt + 1: 0, math.MinInt + 2: 2, math.MinInt + 3: 0} {
		n := sent(t, "x")
		lost := how == -3 || how == math.MinInt+1
		if flying == 2 || lost {
			gives(t, "negative", n, 0, how, "", false)
		} else {
			gives(t, "negative", n, 0, how, "x", true)
		}
		if got := len(n.Flying(0, 1)); got != flying || n.Idle() != (flying == 0 && !lost) {
			t.Errorf("how %d: %d in transit, idle %t", how, got, n.Idle())
		}
	}
}

func TestPickOfNothing(t *testing.T) {
	for _, n := range []*Net{New(2), sent(t, "x"), crowd(t, 32, 8), crowd(t, 40, 8)} {
		had := n.Flying(0, 1)
		open := n.Open(0, 1)
		for _, at := range append(strange(), len(had), len(had)+1) {
			for how := -5; how < 6; how++ {
				gives(t, "no packet", n, at, how, "", false)
			}
			if data, ok := n.Takes(0, 1, at); data != "" || ok {
				t.Errorf("Takes(0, 1, %d): %q, %t, want nothing", at, data, ok)
			}
		}
		is(t, "no packet", n, had...)
		if n.Open(0, 1) != open {
			t.Errorf("after Pick of nothing: %d open, want %d", n.Open(0, 1), open)
		}
	}
}

func TestPacketThatIsPassedTwice(t *testing.T) {
	n := sent(t, "x", "y")
	gives(t, "copy", n, 0, 2, "", false)
	gives(t, "copy of y", n, 1, 2, "", false)
	gives(t, "x", n, 0, 0, "x", true)
	gives(t, "x, a second time", n, 1, 0, "", false)
	gives(t, "y", n, 0, 0, "y", true)
	gives(t, "y, a second time", n, 0, 3, "", false)
	is(t, "all", n)
	if !n.Idle() {
		t.Errorf("all is delivered, but it is not idle")
	}
}

func TestPacketAheadOfItsTurn(t *testing.T) {
	n := sent(t, "x", "y")
	gives(t, "y ahead", n, 1, 0, "", false)
	is(t, "y ahead", n, api.Packet{Seq: 0, Data: "x"})
	if n.Open(0, 1) != 2 {
		t.Fatalf("y ahead: %d open, want 2", n.Open(0, 1))
	}
	gives(t, "x", n, 0, 0, "x", true)
	is(t, "x", n)
	if got := n.Again(0, 1); got != 1 {
		t.Fatalf("Again: %d, want 1", got)
	}
	gives(t, "y in its turn", n, 0, 0, "y", true)
}

func TestPacketAfterItWasAcknowledged(t *testing.T) {
	n := sent(t, "x", "y", "z")
	for range 3 {
		gives(t, "copies of x", n, 0, 2, "", false)
	}
	gives(t, "x", n, 0, 0, "x", true)
	gives(t, "y", n, 0, 0, "y", true)
	// Copies of x are left behind z.
	for left := 3; left > 0; left-- {
		if n.Open(0, 1) != 1 || len(n.Flying(0, 1)) != 1+left {
			t.Fatalf("%d copies left: %d open, %d in transit", left, n.Open(0, 1), len(n.Flying(0, 1)))
		}
		gives(t, "x, acknowledged", n, left, 0, "", false)
	}
	is(t, "without copies", n, api.Packet{Seq: 2, Data: "z"})
	gives(t, "z", n, 0, 0, "z", true)
}

func TestDuplicatesUpTo32(t *testing.T) {
	for _, c := range []struct{ flying, open, then int }{
		{1, 0, 2}, {1, 1, 2}, {8, 8, 9}, {30, 0, 31}, {30, 8, 31}, {31, 0, 32}, {31, 1, 32}, {31, 8, 32}, {32, 0, 32}, {32, 1, 32}, {32, 8, 32}, {33, 1, 33}, {33, 8, 33}, {39, 8, 39}, {40, 8, 40},
	} {
		for at := range c.flying {
			n := crowd(t, c.flying, c.open)
			want := n.Flying(0, 1)
			if c.then > c.flying {
				want = append(want, want[at])
			}
			gives(t, "duplicated", n, at, 2, "", false)
			is(t, strconv.Itoa(c.flying)+" in transit, duplicated at "+strconv.Itoa(at), n, want...)
			if n.Open(0, 1) != c.open {
				t.Errorf("%d in transit, duplicated: %d open, want %d", c.flying, n.Open(0, 1), c.open)
			}
		}
	}
}

func TestTakesChangesNothing(t *testing.T) {
	n := sent(t, "x", "y", "x")
	had := n.Flying(0, 1)
	for range 20 {
		for at, want := range []string{"x", "", ""} {
			if data, ok := n.Takes(0, 1, at); data != want || ok != (at == 0) {
				t.Fatalf("Takes(0, 1, %d): %q, %t, want %q", at, data, ok, want)
			}
		}
		is(t, "after Takes", n, had...)
		if n.Open(0, 1) != 3 || n.Idle() {
			t.Fatalf("after Takes: %d open, idle %t", n.Open(0, 1), n.Idle())
		}
	}
	gives(t, "x", n, 0, 0, "x", true)
	gives(t, "y", n, 0, 0, "y", true)
	gives(t, "x again", n, 0, 0, "x", true)
}

// An empty string is delivered as any other: it is ok that tells it from nothing.
func TestEmptyStringIsDelivered(t *testing.T) {
	n := sent(t, "", "")
	gives(t, "ahead", n, 1, 0, "", false)
	gives(t, "first", n, 0, 0, "", true)
	if n.Again(0, 1) != 1 {
		t.Errorf("the second empty string is not open")
	}
	gives(t, "second", n, 0, 3, "", true)
	gives(t, "none", n, 0, 0, "", false)
}

// P11.3

func TestAgainAsFarAsThereIsRoom(t *testing.T) {
	for flying := range 41 {
		for open := max(0, flying-32); open <= min(flying, 8); open++ {
			n := crowd(t, flying, open)
			want := n.Flying(0, 1)
			count := min(open, max(0, 32-flying))
			for i := range count {
				want = append(want, api.Packet{Seq: 1 + i, Data: "new" + strconv.Itoa(i)})
			}
			why := strconv.Itoa(flying) + " in transit, " + strconv.Itoa(open) + " open"
			if got := n.Again(0, 1); got != count {
				t.Fatalf("%s: Again: %d, want %d", why, got, count)
			}
			is(t, why, n, want...)
			if n.Open(0, 1) != open {
				t.Fatalf("%s: then %d open", why, n.Open(0, 1))
			}
		}
	}
}

func TestAgainWhatIsOpen(t *testing.T) {
	w := start(t, 2)
	w.agains(t, "nothing open", 0, 1)
	for i := range 5 {
		w.sends(t, "five", 0, 1, strconv.Itoa(i))
	}
	w.picks(t, "two taken", 0, 1, 0, 0)
	w.picks(t, "two taken", 0, 1, 0, 0)
	for range 12 {
		w.agains(t, "three open", 0, 1)
	}
	if got := len(w.n.Flying(0, 1)); got != 32 {
		t.Fatalf("again and again: %d in transit, want 32", got)
	}
	for range 32 {
		w.picks(t, "all lost", 0, 1, 0, 1)
	}
	w.agains(t, "all lost", 0, 1)
	is(t, "all lost, again", w.n, api.Packet{Seq: 2, Data: "2"}, api.Packet{Seq: 3, Data: "3"}, api.Packet{Seq: 4, Data: "4"})
}

func TestIdleWhileOneSessionAloneHasAnOpenPacket(t *testing.T) {
	for sites := 2; sites <= 6; sites++ {
		for a := range sites {
			for b := range sites {
				if a == b {
					continue
				}
				n := New(sites)
				n.Send(a, b, "x")
				if n.Idle() {
					t.Fatalf("%d sites: idle, with an open packet from %d to %d", sites, a, b)
				}
				// Whether it is in transit or lost is no matter; it is idle when it was taken, even if copies are in transit.
				n.Pick(a, b, 0, 1)
				if n.Idle() {
					t.Fatalf("%d sites: idle, with a lost packet from %d to %d", sites, a, b)
				}
				n.Again(a, b)
				n.Pick(a, b, 0, 2)
				n.Pick(a, b, 0, 0)
				if !n.Idle() || len(n.Flying(a, b)) != 1 {
					t.Fatalf("%d sites: not idle, with nothing open", sites)
				}
			}
		}
	}
}

// Sessions

func TestSessionsDoNotTouchOneAnother(t *testing.T) {
	w := start(t, 6)
	for a := range 6 {
		for b := range 6 {
			if a == b {
				continue
			}
			for i := range 1 + (a+b)%8 {
				w.sends(t, "sessions", a, b, strings.Join([]string{strconv.Itoa(a), strconv.Itoa(b), strconv.Itoa(i)}, "-"))
			}
		}
	}
	for a := range 6 {
		for b := range 6 {
			if a == b {
				continue
			}
			w.picks(t, "sessions", a, b, (a+2*b)%3, a+b)
			w.picks(t, "sessions", a, b, 0, 0)
			w.agains(t, "sessions", b, a)
		}
	}
}

func TestTwoWaysAreTwoSessions(t *testing.T) {
	n := New(3)
	for i, p := range [][2]int{{0, 1}, {1, 0}, {0, 2}, {2, 0}, {1, 2}, {2, 1}} {
		data := strconv.Itoa(i)
		if err := n.Send(p[0], p[1], data); err != api.OK {
			t.Fatalf("Send%v: %d", p, int(err))
		}
		if l := n.Flying(p[0], p[1]); !slices.Equal(l, []api.Packet{{Seq: 0, Data: data}}) {
			t.Fatalf("Flying%v: %v", p, l)
		}
	}
	if data, ok := n.Pick(1, 0, 0, 0); data != "1" || !ok || n.Open(1, 0) != 0 || n.Open(0, 1) != 1 {
		t.Errorf("Pick(1, 0): %q, %t; %d open, the other way %d", data, ok, n.Open(1, 0), n.Open(0, 1))
	}
}

// R3

func TestWhatFlyingGaveBelongsToTheCaller(t *testing.T) {
	for _, flying := range []int{1, 2, 7, 8, 31, 32, 40} {
		n := crowd(t, flying, min(flying, 8))
		had := n.Flying(0, 1)
		l := n.Flying(0, 1)
		for i := range l {
			l[i] = api.Packet{Seq: -1, Data: "spoilt"}
		}
		l = append(l, l...)
		clear(l[:cap(l)])
		is(t, "what Flying gave was spoilt", n, had...)
		// Nor does what is done to the network show in it, whatever is removed, appended or removed again.
		l = n.Flying(0, 1)
		full := l[:cap(l)]
		kept := slices.Clone(full)
		n.Pick(0, 1, 0, 1)
		n.Pick(0, 1, len(l)/2, 0)
		n.Pick(0, 1, 0, 2)
		n.Send(0, 1, "more")
		n.Again(0, 1)
		n.Pick(0, 1, len(l)/3, 1)
		if !slices.Equal(full, kept) {
			t.Errorf("%d in transit: what Flying gave is %v, want %v", flying, full, kept)
		}
	}
}

// The place of what is removed may stay, but not what was there.
func TestNothingIsKeptOfWhatIsRemoved(t *testing.T) {
	for count := 1; count < 9; count++ {
		for at := range count {
			for _, how := range []int{0, 1, 3} {
				n := sent(t, slices.Repeat([]string{"x"}, count)...)
				had := n.session(0, 1).flying
				n.Pick(0, 1, at, how)
				if had[at] != (api.Packet{}) {
					t.Errorf("of %d packets the one at %d, picked by %d, is kept: %v", count, at, how, had)
				}
			}
		}
	}
}

// Nil and zero

func TestNilNet(t *testing.T) {
	var n *Net
	sites := append(strange(), 0, 1, 2, 5, 6)
	for _, a := range sites {
		for _, b := range sites {
			nothing(t, n, a, b)
		}
	}
	if n.Idle() {
		t.Errorf("a nil network is idle")
	}
}

// A zero network is one without sites, of which no session has an open packet.
func TestZeroNet(t *testing.T) {
	var n Net
	for a := -1; a < 7; a++ {
		for b := -1; b < 7; b++ {
			nothing(t, &n, a, b)
		}
	}
	if !n.Idle() {
		t.Errorf("a zero network is not idle")
	}
}

// P11.4

// call does one of eleven things in both.
func (w *world) call(t *testing.T, why string, a, b, which int) {
	t.Helper()
	switch which {
	case 0:
		w.sends(t, why, a, b, why+strconv.Itoa(len(w.ways[[2]int{a, b}].sent)))
	case 1:
		w.agains(t, why, a, b)
	default:
		w.picks(t, why, a, b, (which-2)/3, (which-2)%3)
	}
}

func TestEveryListOfSixCalls(t *testing.T) {
	const length, kinds = 6, 8
	total := 1
	for range length {
		total *= kinds
	}
	for i := range total {
		w := &world{n: New(2), sites: 2, ways: map[[2]int]*way{{0, 1}: {}, {1, 0}: {}}}
		for rest, left := i, length; left > 0; left-- {
			w.call(t, "six calls", 0, 1, rest%kinds)
			rest /= kinds
		}
	}
}

// delivered is what a session delivers of what is picked, told from what was sent.
type delivered struct{ sent, given []string }

// stands tells of a delivery that is not of the first strings that were sent.
func (d *delivered) stands(t *testing.T) {
	t.Helper()
	if n := len(d.given); n > len(d.sent) || !slices.Equal(d.given, d.sent[:n]) {
		t.Fatalf("delivered %q, sent %q", d.given, d.sent)
	}
}

// worse sends, loses, repeats and mixes in one session.
func (d *delivered) worse(n *Net, a, b int, c *rand.Rand, count int) {
	for range c.IntN(6) {
		data := strings.Join([]string{strconv.Itoa(a), strconv.Itoa(b), strconv.Itoa(len(d.sent))}, "-")
		if len(d.sent) < count && n.Send(a, b, data) == api.OK {
			d.sent = append(d.sent, data)
		}
	}
	if c.IntN(3) == 0 {
		n.Again(a, b)
	}
	for range c.IntN(20) {
		at := c.IntN(len(n.Flying(a, b)) + 1)
		if data, ok := n.Pick(a, b, at, c.IntN(9)-4); ok {
			d.given = append(d.given, data)
		}
	}
}

func TestWhateverIsPickedAllIsDeliveredOnce(t *testing.T) {
	const count = 40
	for seed := range uint64(100) {
		c := rand.New(rand.NewPCG(seed, 11))
		sites := 2 + c.IntN(5)
		n := New(sites)
		all := map[[2]int]*delivered{}
		for i := range sites * sites {
			if a, b := i/sites, i%sites; a != b {
				all[[2]int{a, b}] = &delivered{}
			}
		}
		for range 1000 {
			a, b := c.IntN(sites), c.IntN(sites)
			if d := all[[2]int{a, b}]; d != nil {
				d.worse(n, a, b, c, count)
				d.stands(t)
				if len(n.Flying(a, b)) > 40 || n.Open(a, b) > 8 {
					t.Fatalf("seed %d: %d in transit, %d open", seed, len(n.Flying(a, b)), n.Open(a, b))
				}
			}
		}
		for pair, d := range all {
			d.finish(t, n, pair[0], pair[1])
		}
		if !n.Idle() {
			t.Fatalf("seed %d: not idle", seed)
		}
	}
}

// finish retransmits, and picks the last packet each time, till all is delivered.
func (d *delivered) finish(t *testing.T, n *Net, a, b int) {
	t.Helper()
	// What is in the way at the start leaves no room in the first round; each further round delivers one string at least.
	for range 1 + n.Open(a, b) {
		n.Again(a, b)
		for at := len(n.Flying(a, b)) - 1; at >= 0; at-- {
			if data, ok := n.Pick(a, b, at, 0); ok {
				d.given = append(d.given, data)
			}
		}
		d.stands(t)
	}
	if !slices.Equal(d.given, d.sent) || n.Open(a, b) != 0 {
		t.Fatalf("from %d to %d: delivered %q, sent %q", a, b, d.given, d.sent)
	}
}

func TestManyCallsAgainstTheWorld(t *testing.T) {
	for seed := range uint64(60) {
		c := rand.New(rand.NewPCG(seed, 1100))
		w := start(t, 2+c.IntN(2))
		for range 400 {
			a, b := c.IntN(w.sites), c.IntN(w.sites)
			x := w.ways[[2]int{a, b}]
			if x == nil {
				continue
			}
			switch c.IntN(8) {
			case 0, 1:
				w.sends(t, "many", a, b, strconv.Itoa(c.IntN(3)))
			case 2:
				w.agains(t, "many", a, b)
			case 3, 4:
				w.picks(t, "many", a, b, slices.Index(x.flying, x.taken), c.IntN(9)-4)
			default:
				w.picks(t, "many", a, b, c.IntN(len(x.flying)+2)-1, c.IntN(9)-4)
			}
		}
	}
}

// P1 and R5: neither the size of the strings nor the number of calls must stop a call, or slow it down out of proportion.
func TestManyAndLargeStrings(t *testing.T) {
	const count = 1 << 20
	n := New(6)
	for i := range count {
		a, b := i%6, (i+1)%6
		err := n.Send(a, b, "x")
		if data, ok := n.Pick(a, b, 0, i&4-1); err != api.OK || data != "x" || !ok {
			t.Fatalf("string %d: %d, %q, %t", i, int(err), data, ok)
		}
	}
	if !n.Idle() {
		t.Fatalf("not idle")
	}
	long := strings.Repeat("\x00\xff", count)
	for range 8 {
		if err := n.Send(5, 0, long); err != api.OK {
			t.Fatalf("a long string: %d", int(err))
		}
	}
	for at := 8; at < 32; at++ {
		n.Pick(5, 0, at-8, 2)
	}
	for i := range 8 {
		if data, ok := n.Pick(5, 0, 0, 0); data != long || !ok {
			t.Fatalf("long string %d is not delivered", i)
		}
	}
}

func FuzzNet(f *testing.F) {
	f.Add("\x00\x00\x01\x02\x0a\x03", "a", 0)
	f.Add("\x00\x00\x00\x00\x00\x00\x00\x00\x00\x01\x01\x01\x01\x02\x06\x0a", "", -1)
	f.Add("\x00\x0a\x0a\x0a\x0a\x0a\x0a\x0a\x0a\x02\x06\x12\x22", "\xff", 1<<40)
	f.Fuzz(func(t *testing.T, calls, data string, odd int) {
		w := start(t, 2)
		for i, c := range []byte(calls) {
			a := int(c) >> 7
			b, n := 1-a, int(c&127)/4
			switch c & 3 {
			case 0:
				w.sends(t, "calls", a, b, data+strconv.Itoa(n))
			case 1:
				w.agains(t, "calls", a, b)
			case 2:
				w.picks(t, "calls", a, b, n/4, n%4)
			case 3:
				w.picks(t, "calls", a, b, odd, n)
				w.picks(t, "calls", a, b, n, odd)
			}
			if odd < 0 || odd > 1 {
				nothing(t, w.n, odd, i%2)
			}
		}
	})
}

// The words of the document's examples.
func TestExamples(t *testing.T) {
	n := New(2)
	if err := n.Send(0, 1, "x"); err != api.OK {
		t.Fatalf("Send: %d", int(err))
	}
	gives(t, "lost", n, 0, 1, "", false)
	if got := n.Again(0, 1); got != 1 {
		t.Errorf("Again: %d, want 1", got)
	}
	gives(t, "again", n, 0, 0, "x", true)
	// A packet that is taken twice is delivered once.
	n = sent(t, "x")
	gives(t, "twice", n, 0, 2, "", false)
	gives(t, "first", n, 0, 0, "x", true)
	gives(t, "second", n, 0, 0, "", false)
}
