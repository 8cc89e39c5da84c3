package link

import (
	"math"
	"math/rand/v2"
	"slices"
	"strconv"
	"strings"
	"testing"

	"archipelago/api"
)

// strange are numbers that no packet of a test has.
func strange() []int {
	return []int{math.MinInt, math.MinInt + 1, -1 << 32, -1 << 31, -257, -256, -9, -8, -2, -1, 1 << 31, 1 << 32, math.MaxInt - 8, math.MaxInt - 1, math.MaxInt}
}

// world is what a sender is to be, reckoned from all that was sent to it: the strings, and how many of them were acknowledged.
type world struct {
	sent []string
	done int
}

// send is what Send is to answer.
func (w *world) send(data string) (api.Packet, api.Errno) {
	if len(w.sent)-w.done >= 8 {
		return api.Packet{}, 15
	}
	w.sent = append(w.sent, data)
	return api.Packet{Seq: len(w.sent) - 1, Data: data}, 0
}

// answer is what Answer is to answer.
func (w *world) answer(seq int) int {
	if seq > len(w.sent) {
		return 0
	}
	had := w.done
	w.done = max(w.done, seq)
	return w.done - had
}

// open is what Open is to answer.
func (w *world) open() []api.Packet {
	var l []api.Packet
	for i, data := range w.sent {
		if i >= w.done {
			l = append(l, api.Packet{Seq: i, Data: data})
		}
	}
	return l
}

// stands tells of a sender that is not what the world says.
func (w *world) stands(t *testing.T, why string, s *Sender) {
	t.Helper()
	if got, want := s.Open(), w.open(); !slices.Equal(got, want) {
		t.Fatalf("%s: open %v, want %v", why, got, want)
	}
	if got := s.Next(); got != len(w.sent) {
		t.Fatalf("%s: next %d, want %d", why, got, len(w.sent))
	}
}

// sends sends a string to both, and tells of an answer that is not what the world says.
func (w *world) sends(t *testing.T, why string, s *Sender, data string) {
	t.Helper()
	got, err := s.Send(data)
	if want, e := w.send(data); got != want || err != e {
		t.Fatalf("%s: Send(%q): %v, %d, want %v, %d", why, data, got, int(err), want, int(e))
	}
	w.stands(t, why, s)
}

// answers acknowledges in both, and tells of an answer that is not what the world says.
func (w *world) answers(t *testing.T, why string, s *Sender, seq int) {
	t.Helper()
	got := s.Answer(seq)
	if want := w.answer(seq); got != want {
		t.Fatalf("%s: Answer(%d): %d, want %d", why, seq, got, want)
	}
	w.stands(t, why, s)
}

// some is a sender to which that many strings were sent, one after another acknowledged where more than eight were open, and of which the first ones were acknowledged; and its world.
func some(t *testing.T, sent, done int) (*Sender, *world) {
	t.Helper()
	s, w := NewSender(), &world{}
	for i := range sent {
		w.answers(t, "at the start", s, min(done, i))
		w.sends(t, "at the start", s, "s"+strconv.Itoa(i))
	}
	w.answers(t, "at the start", s, done)
	return s, w
}

// takes tells of a Take that does not answer this.
func takes(t *testing.T, why string, r *Receiver, p api.Packet, data string, ok bool, waits int) {
	t.Helper()
	if d, o := r.Take(p); d != data || o != ok || r.Waits() != waits {
		t.Fatalf("%s: Take(%v): %q, %t, then it waits for %d, want %q, %t, %d", why, p, d, o, r.Waits(), data, ok, waits)
	}
}

// at is a receiver that expects that number.
func at(t *testing.T, waits int) *Receiver {
	t.Helper()
	r := NewReceiver()
	for i := range waits {
		takes(t, "at the start", r, api.Packet{Seq: i, Data: "x"}, "x", true, i+1)
	}
	return r
}

// P10.1

func TestNewSender(t *testing.T) {
	s := NewSender()
	if s == nil || s.Next() != 0 || len(s.Open()) != 0 {
		t.Fatalf("a new sender: %v", s)
	}
	if one, two := NewSender(), NewSender(); one == two {
		t.Errorf("two new senders are one")
	}
}

func TestSend(t *testing.T) {
	s := NewSender()
	for i, data := range []string{"a", "", "a", "b\x00", "\xff\xfe", "é", strings.Repeat("long", 1000), "last"} {
		if p, err := s.Send(data); p != (api.Packet{Seq: i, Data: data}) || err != api.OK {
			t.Errorf("Send(%q): %v, %d, want packet %d", data, p, int(err), i)
		}
		if open := s.Open(); s.Next() != i+1 || len(open) != i+1 || open[i] != (api.Packet{Seq: i, Data: data}) {
			t.Errorf("after Send(%q): next %d, open %v", data, s.Next(), open)
		}
	}
}

func TestEightOpenPacketsAndANinthString(t *testing.T) {
	s := NewSender()
	for i := range 8 {
		if p, err := s.Send("x"); p.Seq != i || err != api.OK {
			t.Fatalf("Send number %d: %v, %d", i, p, int(err))
		}
	}
	had := s.Open()
	// A string that is refused takes no number, however often.
	for range 20 {
		if p, err := s.Send("ninth"); p != (api.Packet{}) || err != api.ErrFull {
			t.Fatalf("the ninth string: %v, %d, want {0 }, 15", p, int(err))
		}
	}
	if s.Next() != 8 || !slices.Equal(s.Open(), had) {
		t.Fatalf("after the ninth string: next %d, open %v, want 8, %v", s.Next(), s.Open(), had)
	}
	// Nothing that acknowledges nothing makes room.
	for _, seq := range append(strange(), 0, 9) {
		if n := s.Answer(seq); n != 0 {
			t.Errorf("Answer(%d): %d, want 0", seq, n)
		}
		if _, err := s.Send("ninth"); err != api.ErrFull {
			t.Errorf("the ninth string after Answer(%d): %d, want 15", seq, int(err))
		}
	}
	if n := s.Answer(1); n != 1 {
		t.Fatalf("Answer(1): %d, want 1", n)
	}
	if p, err := s.Send("ninth"); p != (api.Packet{Seq: 8, Data: "ninth"}) || err != api.OK {
		t.Errorf("the ninth string after room was made: %v, %d, want {8 ninth}", p, int(err))
	}
	if _, err := s.Send("tenth"); err != api.ErrFull {
		t.Errorf("the tenth string: %d, want 15", int(err))
	}
}

func TestAnswer(t *testing.T) {
	for _, c := range []struct {
		why             string
		sent, done, seq int
		want            int
		open            []int
	}{
		{"nothing sent, 0", 0, 0, 0, 0, nil},
		{"nothing sent, 1", 0, 0, 1, 0, nil},
		{"none", 3, 0, 0, 0, []int{0, 1, 2}},
		{"the first one", 3, 0, 1, 1, []int{1, 2}},
		{"but the last one", 3, 0, 2, 2, []int{2}},
		{"the next number", 3, 0, 3, 3, nil},
		{"one above the next number", 3, 0, 4, 0, []int{0, 1, 2}},
		{"answered already", 3, 2, 2, 0, []int{2}},
		{"less than answered already", 3, 2, 1, 0, []int{2}},
		{"0, when some are answered", 3, 2, 0, 0, []int{2}},
		{"the rest", 3, 2, 3, 1, nil},
		{"one above, when some are answered", 3, 2, 4, 0, []int{2}},
		{"all answered already", 3, 3, 3, 0, nil},
		{"one above, when all are answered", 3, 3, 4, 0, nil},
		{"below 0", 3, 0, -1, 0, []int{0, 1, 2}},
		{"below 0, when some are answered", 3, 2, -1, 0, []int{2}},
		{"the least number", 3, 2, math.MinInt, 0, []int{2}},
		{"the greatest number", 3, 2, math.MaxInt, 0, []int{2}},
		{"all eight", 8, 0, 8, 8, nil},
		{"nine of eight", 8, 0, 9, 0, []int{0, 1, 2, 3, 4, 5, 6, 7}},
		{"one of eight", 8, 0, 1, 1, []int{1, 2, 3, 4, 5, 6, 7}},
		{"some of eight that are not the first ones", 20, 12, 15, 3, []int{15, 16, 17, 18, 19}},
		{"a number of long ago", 20, 12, 3, 0, []int{12, 13, 14, 15, 16, 17, 18, 19}},
	} {
		s, w := some(t, c.sent, c.done)
		if got := s.Answer(c.seq); got != c.want {
			t.Errorf("%s: Answer(%d) acknowledges %d, want %d", c.why, c.seq, got, c.want)
		}
		var open []int
		for _, p := range s.Open() {
			open = append(open, p.Seq)
			if p.Data != w.sent[p.Seq] {
				t.Errorf("%s: packet %v, want %q", c.why, p, w.sent[p.Seq])
			}
		}
		if !slices.Equal(open, c.open) || s.Next() != c.sent {
			t.Errorf("%s: after Answer(%d) open %v, next %d, want %v, %d", c.why, c.seq, open, s.Next(), c.open, c.sent)
		}
	}
}

func TestAnswerOfEveryNumber(t *testing.T) {
	for sent := range 20 {
		for done := max(0, sent-8); done <= sent; done++ {
			for _, seq := range append(strange(), 0, 1, 2, 3, 4, 5, 6, 7, 8, 9, 10, 11, 12, 13, 14, 15, 16, 17, 18, 19, 20, 21) {
				s, w := some(t, sent, done)
				why := strconv.Itoa(done) + " of " + strconv.Itoa(sent) + " answered"
				w.answers(t, why, s, seq)
				// The same again acknowledges nothing more.
				if n := s.Answer(seq); n != 0 {
					t.Fatalf("%s: Answer(%d) again: %d, want 0", why, seq, n)
				}
				w.stands(t, why, s)
				w.sends(t, why, s, "more")
			}
		}
	}
}

// Every list of six calls out of those by which a sender is changed, and those by which it is not.
func TestEveryListOfCalls(t *testing.T) {
	calls := []func(s *Sender, w *world){
		func(s *Sender, w *world) { w.sends(t, "calls", s, "a"+strconv.Itoa(len(w.sent))) },
		func(s *Sender, w *world) {
			for range 5 {
				w.sends(t, "calls", s, "b")
			}
		},
		func(s *Sender, w *world) { w.answers(t, "calls", s, -1) },
		func(s *Sender, w *world) { w.answers(t, "calls", s, w.done) },
		func(s *Sender, w *world) { w.answers(t, "calls", s, w.done+1) },
		func(s *Sender, w *world) { w.answers(t, "calls", s, w.done+3) },
		func(s *Sender, w *world) { w.answers(t, "calls", s, len(w.sent)) },
		func(s *Sender, w *world) { w.answers(t, "calls", s, len(w.sent)+1) },
	}
	for list := range 1 << (3 * 6) {
		s, w := NewSender(), &world{}
		for i := range 6 {
			calls[list>>(3*i)%8](s, w)
		}
	}
}

func TestOpenOfNothingSomeAndAll(t *testing.T) {
	for sent := range 9 {
		for done := range sent + 1 {
			s, w := some(t, sent, done)
			open := s.Open()
			if len(open) != sent-done {
				t.Fatalf("%d sent, %d answered: %d open", sent, done, len(open))
			}
			for i, p := range open {
				if p != (api.Packet{Seq: done + i, Data: w.sent[done+i]}) {
					t.Errorf("%d sent, %d answered: %v at %d", sent, done, p, i)
				}
			}
		}
	}
}

// R3: what is done to the slice that Open gave, up to its capacity and beyond it, is seen in no other answer.
func TestOpenIsTheCallers(t *testing.T) {
	for sent := range 12 {
		for done := max(0, sent-8); done <= sent; done++ {
			s, w := some(t, sent, done)
			one, two := s.Open(), s.Open()
			if cap(one) != len(one) {
				t.Errorf("%d sent, %d answered: %d open, but a capacity of %d", sent, done, len(one), cap(one))
			}
			one = append(one, api.Packet{Seq: 99, Data: "appended"})
			clear(one[:cap(one)])
			for i := range two {
				if two[i] != (api.Packet{Seq: done + i, Data: w.sent[done+i]}) {
					t.Fatalf("a change of one slice is seen in another one: %v", two)
				}
				two[i] = api.Packet{Seq: 99, Data: "changed"}
			}
			w.stands(t, "after a change of the slice", s)
			two = append(two[:0], api.Packet{Seq: 99, Data: "appended"})
			w.stands(t, "after something was appended to the slice's start", s)
			w.sends(t, "after a change of the slice", s, "more")
			w.answers(t, "after a change of the slice", s, done+1)
			clear(two)
			w.answers(t, "after a change of the slice", s, s.Next())
		}
	}
}

func TestOpenStaysAsItWas(t *testing.T) {
	for sent := range 9 {
		for done := range sent + 1 {
			s, w := some(t, sent, done)
			open, want := s.Open(), w.open()
			s.Send("more")
			s.Answer(done + 1)
			s.Send("and more")
			s.Answer(s.Next())
			for range 8 {
				s.Send("others")
			}
			if !slices.Equal(open, want) {
				t.Errorf("%d sent, %d answered: the slice that Open gave became %v, it was %v", sent, done, open, want)
			}
		}
	}
}

// What is kept from call to call is no more than is needed.
func TestWhatIsAnsweredIsNotKept(t *testing.T) {
	for sent := range 12 {
		for done := max(0, sent-8); done <= sent; done++ {
			s, w := some(t, sent, done)
			want := Sender{counter: counter{next: sent}, count: sent - done}
			copy(want.packets[:], w.open())
			if *s != want {
				t.Errorf("%d sent, %d answered: %v is kept, want %v", sent, done, *s, want)
			}
		}
	}
}

// P10.2

func TestNewReceiver(t *testing.T) {
	r := NewReceiver()
	if r == nil || r.Waits() != 0 {
		t.Fatalf("a new receiver: %v", r)
	}
	takes(t, "new", r, api.Packet{Seq: 1, Data: "b"}, "", false, 0)
	takes(t, "new", r, api.Packet{Data: "a"}, "a", true, 1)
	takes(t, "another new one", NewReceiver(), api.Packet{Data: "a"}, "a", true, 1)
}

func TestTakeAheadAtAndBehind(t *testing.T) {
	for waits := range 12 {
		for _, seq := range append(strange(), 0, 1, 2, 3, 4, 5, 6, 7, 8, 9, 10, 11, 12, 13) {
			for _, data := range []string{"a", "", "\xff\x00", "x"} {
				r, p := at(t, waits), api.Packet{Seq: seq, Data: data}
				if seq == waits {
					takes(t, "at", r, p, data, true, waits+1)
					takes(t, "at, again", r, p, "", false, waits+1)
					continue
				}
				takes(t, "ahead or behind", r, p, "", false, waits)
				takes(t, "ahead or behind, again", r, p, "", false, waits)
				// What was refused leaves no trace.
				takes(t, "then at", r, api.Packet{Seq: waits, Data: "at"}, "at", true, waits+1)
			}
		}
	}
}

// A receiver goes by the number alone: the string may be any, and the packet of another sender.
func TestTakeGoesByTheNumber(t *testing.T) {
	r := NewReceiver()
	takes(t, "empty", r, api.Packet{}, "", true, 1)
	takes(t, "empty, again", r, api.Packet{}, "", false, 1)
	takes(t, "the same number, another string", r, api.Packet{Data: "other"}, "", false, 1)
	takes(t, "the same string, another number", r, api.Packet{Seq: 1}, "", true, 2)
	takes(t, "long", r, api.Packet{Seq: 2, Data: strings.Repeat("\xff", 1<<20)}, strings.Repeat("\xff", 1<<20), true, 3)
}

// Nil and zero

func TestNilSender(t *testing.T) {
	var s *Sender
	for _, data := range []string{"", "a", strings.Repeat("a", 1000)} {
		for range 10 {
			if p, err := s.Send(data); p != (api.Packet{}) || err != api.ErrArg {
				t.Fatalf("Send of a nil sender: %v, %d, want {0 }, 1", p, int(err))
			}
		}
	}
	for _, seq := range append(strange(), 0, 1, 8, 9) {
		if n := s.Answer(seq); n != 0 {
			t.Errorf("Answer(%d) of a nil sender: %d, want 0", seq, n)
		}
	}
	if l := s.Open(); len(l) != 0 || s.Next() != 0 {
		t.Errorf("a nil sender: open %v, next %d", l, s.Next())
	}
}

func TestNilReceiver(t *testing.T) {
	var r *Receiver
	for _, seq := range append(strange(), 0, 0, 1, 1, 2) {
		takes(t, "nil", r, api.Packet{Seq: seq, Data: "a"}, "", false, 0)
	}
}

func TestZeroValues(t *testing.T) {
	var s Sender
	var r Receiver
	w := &world{}
	w.stands(t, "zero", &s)
	takes(t, "zero", &r, api.Packet{Seq: 1, Data: "b"}, "", false, 0)
	for i := range 30 {
		data := strconv.Itoa(i)
		w.sends(t, "zero", &s, data)
		if i < 20 {
			takes(t, "zero", &r, api.Packet{Seq: i, Data: data}, data, true, i+1)
			w.answers(t, "zero", &s, r.Waits())
		}
	}
	if len(s.Open()) != 8 || s.Next() != 28 {
		t.Errorf("zero: %d open, next %d, want 8, 28", len(s.Open()), s.Next())
	}
}

func TestTwoSessionsShareNothing(t *testing.T) {
	one, two := NewSender(), NewSender()
	v, w := &world{}, &world{}
	near, far := NewReceiver(), NewReceiver()
	for i := range 40 {
		v.sends(t, "one", one, "one")
		if i%3 == 0 {
			w.sends(t, "two", two, "two")
			v.answers(t, "one", one, i)
			takes(t, "far", far, api.Packet{Seq: i / 3, Data: "two"}, "two", true, i/3+1)
		}
		v.stands(t, "one", one)
		w.stands(t, "two", two)
		takes(t, "near", near, api.Packet{Seq: i, Data: "one"}, "one", true, i+1)
	}
}

// P10.3

// sent is a sender to which that many strings were sent, and its open packets.
func sent(t *testing.T, n int) (*Sender, []api.Packet) {
	t.Helper()
	s, _ := some(t, n, 0)
	return s, s.Open()
}

// deliver is the strings that a receiver delivers of some packets.
func deliver(r *Receiver, packets ...api.Packet) []string {
	var l []string
	for _, p := range packets {
		if data, ok := r.Take(p); ok {
			l = append(l, data)
		}
	}
	return l
}

// dataOf is the strings of some packets.
func dataOf(packets []api.Packet) []string {
	var l []string
	for _, p := range packets {
		l = append(l, p.Data)
	}
	return l
}

// everyOrder calls do with every order of some packets.
func everyOrder(packets []api.Packet, do func(l []api.Packet)) {
	var grow func(l, rest []api.Packet)
	grow = func(l, rest []api.Packet) {
		if len(rest) == 0 {
			do(l)
		}
		for i := range rest {
			grow(slices.Concat(l, rest[i:i+1]), slices.Concat(rest[:i], rest[i+1:]))
		}
	}
	grow(nil, packets)
}

func TestPacketsInEveryOrder(t *testing.T) {
	_, packets := sent(t, 8)
	orders := 0
	everyOrder(packets, func(l []api.Packet) {
		orders++
		// Of each packet that is delivered, all packets ahead of it came ahead of it, in their order.
		place := make([]int, len(l))
		for i, p := range l {
			place[p.Seq] = i
		}
		n := 1
		for n < len(place) && place[n-1] < place[n] {
			n++
		}
		r := NewReceiver()
		if got := deliver(r, l...); !slices.Equal(got, dataOf(packets[:n])) || r.Waits() != n {
			t.Fatalf("%v: delivered %v, waits for %d, want the first %d", l, got, r.Waits(), n)
		}
	})
	if orders != 40320 {
		t.Fatalf("%d orders of 8 packets", orders)
	}
}

// contains reports whether the first n packets come in this order in l, others between them or not.
func contains(l []api.Packet, n int) bool {
	for seq := range n {
		i := slices.IndexFunc(l, func(p api.Packet) bool { return p.Seq == seq })
		if i < 0 {
			return false
		}
		l = l[i+1:]
	}
	return true
}

func TestPacketsLostAndRepeatedInEveryOrder(t *testing.T) {
	const count, length = 4, 8
	_, packets := sent(t, count)
	var grow func(l []api.Packet)
	grow = func(l []api.Packet) {
		n := 0
		for n < count && contains(l, n+1) {
			n++
		}
		r := NewReceiver()
		if got := deliver(r, l...); !slices.Equal(got, dataOf(packets[:n])) || r.Waits() != n {
			t.Fatalf("%v: delivered %v, waits for %d, want the first %d", l, got, r.Waits(), n)
		}
		if len(l) == length {
			return
		}
		for _, p := range packets {
			grow(append(l[:len(l):len(l)], p))
		}
	}
	grow(nil)
}

// Whatever the order in which the open packets are taken, each time at least one more is delivered.
func TestOpenPacketsTakenAgainAndAgain(t *testing.T) {
	for n := range 7 {
		_, packets := sent(t, n)
		everyOrder(packets, func(order []api.Packet) {
			s, _ := sent(t, n)
			r := NewReceiver()
			var got []string
			for range n {
				for _, p := range order {
					if slices.Contains(s.Open(), p) {
						got = append(got, deliver(r, p)...)
					}
				}
				s.Answer(r.Waits())
			}
			if !slices.Equal(got, dataOf(packets)) || len(s.Open()) != 0 || r.Waits() != n {
				t.Fatalf("%v, again and again: delivered %v, open %v", order, got, s.Open())
			}
		})
	}
}

// session is both ends, the packets and the answers that are under way, and what was sent and delivered.
type session struct {
	s         *Sender
	r         *Receiver
	flying    []api.Packet
	answers   []int
	to, given []string
}

// fill sends strings until the sender is full, or has had that many.
func (x *session) fill(count int) {
	for len(x.to) < count {
		data := "s" + strconv.Itoa(len(x.to))
		if _, err := x.s.Send(data); err != api.OK {
			return
		}
		x.to = append(x.to, data)
	}
}

// worse loses, repeats and mixes what is under way; what stays may come ever so late.
func (x *session) worse(c *rand.Rand) {
	x.flying = append(x.flying, x.s.Open()...)
	c.Shuffle(len(x.flying), func(i, k int) { x.flying[i], x.flying[k] = x.flying[k], x.flying[i] })
	for range c.IntN(20) {
		if len(x.flying) == 0 {
			break
		}
		p := x.flying[0]
		if c.IntN(3) > 0 {
			x.flying = x.flying[1:]
		} else {
			x.flying = append(x.flying[1:], p)
		}
		if c.IntN(2) > 0 {
			continue
		}
		x.given = append(x.given, deliver(x.r, p)...)
		x.answers = append(x.answers, x.r.Waits())
	}
	for range c.IntN(5) {
		if i := c.IntN(len(x.answers) + 1); i < len(x.answers) {
			x.s.Answer(x.answers[i])
		}
	}
}

// stands tells of a delivery that is not of the first strings, or of a sender that has let go what was not delivered.
func (x *session) stands(t *testing.T) {
	t.Helper()
	if n := len(x.given); n > len(x.to) || !slices.Equal(x.given, x.to[:n]) || x.r.Waits() != n {
		t.Fatalf("delivered %v, waits for %d; sent %v", x.given, x.r.Waits(), x.to)
	}
	open := x.s.Open()
	if x.s.Next() != len(x.to) || !slices.Equal(dataOf(open), x.to[len(x.to)-len(open):]) || len(x.to)-len(open) > len(x.given) {
		t.Fatalf("open %v; sent %v, delivered %v", open, x.to, x.given)
	}
}

func TestAllIsDeliveredOverAPoorWay(t *testing.T) {
	const count = 60
	for seed := range uint64(200) {
		c := rand.New(rand.NewPCG(seed, 10))
		x := &session{s: NewSender(), r: NewReceiver()}
		for range 400 {
			x.fill(count)
			x.worse(c)
			x.stands(t)
			x.flying = x.flying[:min(len(x.flying), 100)]
		}
		// From here on nothing is lost, but the last packet comes first.
		for len(x.given) < count {
			had := len(x.given)
			x.fill(count)
			x.s.Answer(x.r.Waits())
			x.fill(count)
			open := x.s.Open()
			slices.Reverse(open)
			x.given = append(x.given, deliver(x.r, open...)...)
			x.stands(t)
			if len(x.given) == had {
				t.Fatalf("seed %d: nothing is delivered of %v", seed, open)
			}
		}
		if x.s.Answer(x.r.Waits()); len(x.s.Open()) != 0 || !slices.Equal(x.given, x.to) {
			t.Fatalf("seed %d: delivered %v, open %v", seed, x.given, x.s.Open())
		}
	}
}

// P1 and R5: neither the size of the strings nor the number of packets must stop a call, or slow it down out of proportion.
func TestManyAndLargeStrings(t *testing.T) {
	const count = 1 << 20
	s, r := NewSender(), NewReceiver()
	for i := range count {
		p, err := s.Send("x")
		if data, ok := r.Take(p); p.Seq != i || err != api.OK || data != "x" || !ok {
			t.Fatalf("string %d: %v, %d, %q, %t", i, p, int(err), data, ok)
		}
		if n := s.Answer(r.Waits()); n != 1 {
			t.Fatalf("Answer(%d): %d, want 1", r.Waits(), n)
		}
	}
	long := strings.Repeat("\x00\xff", count)
	for i := range 8 {
		if p, err := s.Send(long); p != (api.Packet{Seq: count + i, Data: long}) || err != api.OK {
			t.Fatalf("a long string: packet %d, %d", p.Seq, int(err))
		}
	}
	if got := deliver(r, s.Open()...); !slices.Equal(got, slices.Repeat([]string{long}, 8)) || s.Answer(r.Waits()) != 8 {
		t.Errorf("%d of 8 long strings are delivered", len(got))
	}
}

func FuzzLink(f *testing.F) {
	f.Add("\x00\x00\x00\x01\x02\x03", "a", 1)
	f.Add("\x00\x00\x00\x00\x00\x00\x00\x00\x00\x05\x00", "", -1)
	f.Add("\x00\x02\x06\x0a\x01\x00\x02", "\xff", 1<<40)
	f.Fuzz(func(t *testing.T, calls, data string, odd int) {
		s, r, w := NewSender(), NewReceiver(), &world{}
		var given []string
		for _, b := range []byte(calls) {
			switch n := int(b) / 4; b % 4 {
			case 0:
				w.sends(t, "calls", s, data+strconv.Itoa(n))
			case 1:
				w.answers(t, "calls", s, w.done+n-4)
			case 2:
				if n < len(w.sent) {
					given = append(given, deliver(r, api.Packet{Seq: n, Data: w.sent[n]})...)
				}
			case 3:
				w.answers(t, "calls", s, odd)
				if odd != r.Waits() {
					takes(t, "calls", r, api.Packet{Seq: odd, Data: data}, "", false, r.Waits())
				}
			}
			if n := len(given); !slices.Equal(given, w.sent[:n]) || r.Waits() != n {
				t.Fatalf("delivered %q, waits for %d; sent %q", given, r.Waits(), w.sent)
			}
		}
	})
}

// The words of the document's examples.
func TestExamples(t *testing.T) {
	s, r := NewSender(), NewReceiver()
	a, one := s.Send("a")
	b, two := s.Send("b")
	if a != (api.Packet{Seq: 0, Data: "a"}) || b != (api.Packet{Seq: 1, Data: "b"}) || one != api.OK || two != api.OK {
		t.Fatalf("Send: %v, %d, %v, %d", a, int(one), b, int(two))
	}
	takes(t, "packet 1", r, b, "", false, 0)
	takes(t, "packet 0", r, a, "a", true, 1)
	takes(t, "packet 1", r, b, "b", true, 2)
	// A packet that is taken twice is delivered once.
	if got := deliver(NewReceiver(), a, a); !slices.Equal(got, []string{"a"}) {
		t.Errorf("packet 0 twice: %v", got)
	}
}
