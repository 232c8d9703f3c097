package send

import (
	"slices"
	"testing"

	"watchfire/api"
)

// wantCame holds the numbers of the items in flight that are acknowledged against what they should be.
func wantCame(t *testing.T, about string, s *Sender, want ...uint64) {
	t.Helper()
	if got := came(s); !slices.Equal(got, want) {
		t.Errorf("%s: %v are acknowledged, want %v", about, got, want)
	}
}

// TestAckRange: numbers that were not given are refused, and change nothing.
func TestAckRange(t *testing.T) {
	for _, many := range []int{0, 1, 5, 64} {
		s := filled(t, many)
		next := uint64(many + 1)
		for range 3 {
			was := stateOf(s)
			for _, cum := range []uint64{next, next + 1, next + 63, api.MaxNumber, api.MaxNumber + 1, great - 1, great} {
				for _, bits := range []uint64{0, 1, great} {
					index, e := s.Ack(cum, bits)
					if index != 0 || e != api.ErrRange {
						t.Errorf("P10.2: Ack(%d, %b) of %d: %d, %d", cum, bits, many, index, e)
					}
				}
			}
			wantState(t, "R4: Ack of a number that was not given", s, was)
			s.Ack(next-1, 0)
		}
	}
}

// TestAckCum acknowledges up to each number of five.
func TestAckCum(t *testing.T) {
	for cum := range uint64(6) {
		s := filled(t, 5)
		s.Due(5)
		was := stateOf(s)
		acks(t, s, cum, 0, 10*cum)
		want := state{59 + int(cum), was.list[cum:], 50, cum, 6, 5, 0, 7, true}
		if cum == 5 {
			want.last, want.wake, want.wakes = 0, 0, false
		}
		wantState(t, "P10.2: Ack", s, want)
		for range 2 {
			acks(t, s, cum, 0, 0)
			wantState(t, "P10.2: an Ack that comes twice", s, want)
		}
		for late := range cum {
			acks(t, s, late, 0, 0)
			wantState(t, "P10.2: an Ack that comes late", s, want)
		}
	}
}

// TestAckUnsent: what was offered and not yet sent is acknowledged all the same.
func TestAckUnsent(t *testing.T) {
	s := filled(t, 4)
	acks(t, s, 2, 1, 20)
	wantState(t, "P10.2: Ack of what was not sent", s, state{62, []Flight{{3, 30, 5, 2, false, false}, {4, 40, 5, 2, false, true}}, 40, 2, 5, 0, 0, 5, true})
	wantFlights(t, "P10.2: Due behind an Ack", s.Due(5), Flight{3, 30, 5, 2, false, false})
}

// TestAckBit sets each bit, of each number up to which all is acknowledged, where 64, some and no items are in flight.
func TestAckBit(t *testing.T) {
	for _, many := range []int{0, 1, 2, 3, 40, 63, 64} {
		for cum := range uint64(many + 1) {
			for i := range 64 {
				s := filled(t, many)
				was := stateOf(s)
				acks(t, s, cum, 1<<i, 10*cum)
				want := state{64 - many + int(cum), was.list[cum:], was.last, cum, was.next, 0, 0, 5, cum < uint64(many)}
				if cum == uint64(many) {
					want.last, want.wake = 0, 0
				}
				if at := i + 1; at < len(want.list) {
					want.list[at].Came = true
				}
				wantState(t, "P10.2: Ack with a bit", s, want)
			}
		}
	}
}

// TestAckLateBit sets each bit of an Ack that is late by some numbers, up to the last bit, which stands for the last of 64 items in flight then.
func TestAckLateBit(t *testing.T) {
	for late := range uint64(4) {
		for i := range uint64(64) {
			s := filled(t, 64)
			acks(t, s, 3, 0, 30)
			offers(t, s, 5, 650, 660, 670)
			acks(t, s, 3-late, 1<<i, 0)
			if seq := 3 - late + 2 + i; seq > 4 && seq <= 67 { // 4 is the first one
				wantCame(t, "P10.2: a late Ack with a bit", s, seq)
			} else {
				wantCame(t, "P10.2: a late Ack with a bit of what is not in flight", s)
			}
			base, next, _, _ := s.Counts()
			if s.Room() != 0 || base != 3 || next != 68 || s.Last() != 670 {
				t.Errorf("P10.2: a late Ack: %+v", stateOf(s))
			}
		}
	}
}

// TestAckBits sets several bits, and all of them; what one Ack acknowledged stays so with the next one.
func TestAckBits(t *testing.T) {
	s := filled(t, 8)
	acks(t, s, 0, 0b101, 0)
	wantCame(t, "P10.2: two bits", s, 2, 4)
	acks(t, s, 0, 0, 0)
	wantCame(t, "P10.2: an Ack without bits", s, 2, 4)
	acks(t, s, 0, 0b1001, 0)
	wantCame(t, "P10.2: an Ack with other bits", s, 2, 4, 5)
	wantFlights(t, "P10.2: Due of what is not acknowledged", s.Due(9), Flight{1, 10, 5, 2, false, false},
		Flight{3, 30, 5, 2, false, false}, Flight{6, 60, 5, 2, false, false}, Flight{7, 70, 5, 2, false, false}, Flight{8, 80, 5, 2, false, false})
	acks(t, s, 0, great, 0)
	wantCame(t, "P10.2: all bits", s, 2, 3, 4, 5, 6, 7, 8)
	wantFlights(t, "P10.2: Due of the first one", s.Due(11), Flight{1, 10, 11, 4, true, false})
	acks(t, s, 4, 0, 40)
	wantCame(t, "P10.2: behind an Ack", s, 6, 7, 8)
	if s.Room() != 60 {
		t.Errorf("P10.1: Room of what is acknowledged by bits: %d", s.Room())
	}
	acks(t, s, 8, great, 80)
	wantState(t, "P10.2: Ack of all, with bits beyond", s, state{room: 64, base: 8, next: 9, sent: 6, again: 1})
	offers(t, s, 20, 81, 82)
	wantCame(t, "P10.2: bits beyond what was in flight", s)
}

// TestAckFirst: the first item that remains in flight is sent again, though a bit acknowledged it: the same Ack's, an earlier one's, or a late one's.
func TestAckFirst(t *testing.T) {
	for _, c := range []struct {
		about string
		acks  [][2]uint64 // behind a first one of number 0
		came  []uint64
	}{
		{"an earlier bit", [][2]uint64{{0, 0b1}, {1, 0}}, nil},
		{"earlier bits", [][2]uint64{{0, 0b1111}, {1, 0}}, []uint64{3, 4, 5}},
		{"earlier bits, up to the last one", [][2]uint64{{0, 0b1111}, {4, 0}}, nil},
		{"a bit that comes late", [][2]uint64{{1, 0}, {0, 0b1}}, nil},
		{"a bit that comes late, and another one", [][2]uint64{{1, 0}, {0, 0b11}}, []uint64{3}},
		{"a bit that comes twice", [][2]uint64{{0, 0b1}, {1, 0}, {0, 0b1}}, nil},
		{"an Ack that comes twice", [][2]uint64{{0, 0b1}, {1, 0b1}, {1, 0b1}}, []uint64{3}},
		{"each in turn", [][2]uint64{{0, 0b1111}, {1, 0}, {2, 0}, {3, 0}}, []uint64{5}},
	} {
		s := filled(t, 5)
		s.Due(5)
		s.Due(7)
		for _, a := range c.acks {
			index, e := s.Ack(a[0], a[1])
			if e != api.OK || index%10 != 0 {
				t.Errorf("P10.2: Ack(%d, %b): %d, %d", a[0], a[1], index, e)
			}
		}
		wantCame(t, "P10.2: "+c.about, s, c.came...)
		first := s.List()[0]
		wantFlights(t, "P10.2: the first one before it is due", s.Due(10))
		got := s.Due(11)
		if len(got) == 0 || got[0] != first || first.Wait != 8 || !first.Sent {
			t.Errorf("P10.2: %s: %+v is sent, want %+v first", c.about, got, first)
		}
	}
}

// link is a plain receiver behind a link: which number it wants, the indexes that it holds by their numbers, and those that it passed on.
type link struct {
	want   uint64
	held   map[uint64]uint64
	passed []uint64
}

func (l *link) take(f Flight) {
	if f.Seq >= l.want {
		l.held[f.Seq] = f.Index
	}
}

// pass passes on the item that is wanted, if it is held: that one alone.
func (l *link) pass() {
	if index := l.held[l.want]; index != 0 {
		l.passed = append(l.passed, index)
		l.want++
	}
}

func (l *link) ack() (cum, bits uint64) {
	for i := range uint64(64) {
		if l.held[l.want+1+i] != 0 {
			bits |= 1 << i
		}
	}
	return l.want - 1, bits
}

// TestLossyLink sends 200 items over a link that loses two of three frames, to a receiver that acknowledges at every third tick, and passes on an item only when a frame comes, and not at each. All are passed on once, in order: the first one is sent again though it is held.
func TestLossyLink(t *testing.T) {
	for _, window := range []int{1, 2, 7, 64} {
		s := made(t, window, 1, 4)
		l := &link{want: 1, held: map[uint64]uint64{}}
		frames, index := 0, uint64(0)
		for now := uint64(0); now < 20000 && len(l.passed) < 200; now++ {
			for s.Room() > 0 && index < 200 {
				index++
				offers(t, s, now, index)
			}
			for _, f := range s.Due(now) {
				frames++
				if frames%3 == 0 {
					l.take(f)
				}
				if frames%6 == 0 {
					l.pass()
				}
			}
			if now%3 == 0 {
				_, e := s.Ack(l.ack())
				wantError(t, "P10.2: Ack", e, api.OK)
			}
		}
		if len(l.passed) != 200 || !slices.IsSorted(l.passed) || l.passed[0] != 1 || l.passed[199] != 200 {
			t.Errorf("P10.2: a window of %d: %d items are passed on: %v", window, len(l.passed), l.passed)
		}
	}
}
