package send

import (
	"fmt"
	"math"
	"slices"
	"testing"

	"watchfire/api"
)

// great is the greatest number.
const great = math.MaxUint64

// state is all that a sender tells of itself.
type state struct {
	room                    int
	list                    []Flight
	last                    uint64
	base, next, sent, again uint64
	wake                    uint64
	wakes                   bool
}

func stateOf(s *Sender) state {
	var is state
	is.room, is.list, is.last = s.Room(), s.List(), s.Last()
	is.base, is.next, is.sent, is.again = s.Counts()
	is.wake, is.wakes = s.Wake()
	return is
}

// sameState compares what is printed: an empty list may be nil.
func sameState(a, b state) bool {
	return fmt.Sprint(a) == fmt.Sprint(b)
}

// wantState holds all that a sender tells of itself against what it should tell.
func wantState(t *testing.T, about string, s *Sender, want state) {
	t.Helper()
	if got := stateOf(s); !sameState(got, want) {
		t.Errorf("%s: %+v, want %+v", about, got, want)
	}
}

func wantError(t *testing.T, about string, got, want api.Errno) {
	t.Helper()
	if got != want {
		t.Errorf("%s: %d, want %d", about, got, want)
	}
}

func wantFlights(t *testing.T, about string, got []Flight, want ...Flight) {
	t.Helper()
	if !slices.Equal(got, want) {
		t.Errorf("%s: %+v, want %+v", about, got, want)
	}
}

// made returns a sender with nothing in flight.
func made(t *testing.T, window int, first, most uint64) *Sender {
	t.Helper()
	s, e := New(window, first, most)
	if e != api.OK {
		t.Fatalf("P10.1: New(%d, %d, %d): %d", window, first, most, e)
	}
	return s
}

// offers puts indexes in flight at a time, for which there is room.
func offers(t *testing.T, s *Sender, now uint64, indexes ...uint64) {
	t.Helper()
	for _, index := range indexes {
		_, next, _, _ := s.Counts()
		if seq, e := s.Offer(index, now); seq != next || e != api.OK {
			t.Fatalf("P10.1: Offer(%d, %d): %d, %d, want %d", index, now, seq, e, next)
		}
	}
}

// acks makes an acknowledgement, and holds against it the index that is returned.
func acks(t *testing.T, s *Sender, cum, bits, want uint64) {
	t.Helper()
	if index, e := s.Ack(cum, bits); index != want || e != api.OK {
		t.Fatalf("P10.2: Ack(%d, %b): %d, %d, want %d", cum, bits, index, e, want)
	}
}

// filled returns a sender of the window 64 with so many items in flight: number n has the index 10*n, and is due at 5.
func filled(t *testing.T, many int) *Sender {
	t.Helper()
	s := made(t, 64, 2, 100)
	for i := range many {
		offers(t, s, 5, uint64(i+1)*10)
	}
	return s
}

// came returns the numbers of the items in flight that are acknowledged.
func came(s *Sender) []uint64 {
	var l []uint64
	for _, f := range s.List() {
		if f.Came {
			l = append(l, f.Seq)
		}
	}
	return l
}

func TestNew(t *testing.T) {
	for _, c := range []struct {
		window      int
		first, most uint64
		e           api.Errno
	}{
		{math.MinInt, 1, 1, api.ErrWindow},
		{-64, 1, 1, api.ErrWindow},
		{-1, 1, 1, api.ErrWindow},
		{0, 1, 1, api.ErrWindow},
		{1, 1, 1, api.OK},
		{2, 1, 1, api.OK},
		{64, 1, 1, api.OK},
		{65, 1, 1, api.ErrWindow},
		{math.MaxInt, 1, 1, api.ErrWindow},
		{8, 0, 0, api.ErrRange},
		{8, 0, 1, api.ErrRange},
		{8, 0, 1048576, api.ErrRange},
		{8, 0, 1048577, api.ErrRange},
		{8, 1, 0, api.ErrRange},
		{8, 1, 2, api.OK},
		{8, 2, 1, api.ErrRange},
		{8, 2, 2, api.OK},
		{8, 1, 1048575, api.OK},
		{8, 1, 1048576, api.OK},
		{8, 1, 1048577, api.ErrRange},
		{8, 1048575, 1048576, api.OK},
		{8, 1048576, 0, api.ErrRange},
		{8, 1048576, 1048575, api.ErrRange},
		{8, 1048576, 1048576, api.OK},
		{8, 1048576, 1048577, api.ErrRange},
		{8, 1048577, 1048576, api.ErrRange},
		{8, 1048577, 1048577, api.ErrRange},
		{8, 1, great, api.ErrRange},
		{8, great, 1, api.ErrRange},
		{8, great, great, api.ErrRange},
	} {
		s, e := New(c.window, c.first, c.most)
		if e != c.e || (s == nil) != (e != api.OK) {
			t.Errorf("P10.1: New(%d, %d, %d): %v, %d, want %d", c.window, c.first, c.most, s, e, c.e)
		}
		if s != nil {
			wantState(t, "P10.1: a new sender", s, state{room: c.window, next: 1})
			wantFlights(t, "P10.2: Due of a new sender", s.Due(0))
		}
	}
}

// TestExample is the chapter's: with New(2, 1, 4), an item is sent at 0, 1, 3, 7, 11.
func TestExample(t *testing.T) {
	s := made(t, 2, 1, 4)
	offers(t, s, 0, 1)
	var times []uint64
	for now := range uint64(13) {
		if len(s.Due(now)) > 0 {
			times = append(times, now)
		}
	}
	if !slices.Equal(times, []uint64{0, 1, 3, 7, 11}) {
		t.Errorf("chapter 10's example: sent at %v", times)
	}
	wantState(t, "chapter 10's example", s, state{1, []Flight{{1, 1, 15, 4, true, false}}, 1, 0, 2, 5, 4, 15, true})
}

// TestOffer fills a window, whose numbers are given one by one.
func TestOffer(t *testing.T) {
	for _, window := range []int{1, 2, 63, 64} {
		s := made(t, window, 3, 9)
		var list []Flight
		for i := range window {
			seq, index, now := uint64(i+1), uint64(7*i), uint64(100-i)
			offers(t, s, now, index)
			list = append(list, Flight{Seq: seq, Index: index, Due: now, Wait: 3})
			wantState(t, "P10.1: Offer", s, state{window - i - 1, list, index, 0, seq + 1, 0, 0, now, true})
		}
		for range 3 {
			seq, e := s.Offer(1000, 1000)
			if seq != 0 || e != api.ErrWindow {
				t.Errorf("P10.1: Offer without room: %d, %d", seq, e)
			}
		}
		wantState(t, "P10.1: a full window", s, state{0, list, uint64(7 * (window - 1)), 0, uint64(window + 1), 0, 0, uint64(101 - window), true})
		acks(t, s, 1, 0, 0)
		offers(t, s, 0, 1000)
		seq, e := s.Offer(2000, 0)
		if seq != 0 || e != api.ErrWindow {
			t.Errorf("P10.1: Offer without room, behind an Ack: %d, %d", seq, e)
		}
		wantState(t, "P10.1: a window that is full again", s,
			state{0, append(list[1:], Flight{Seq: uint64(window + 1), Index: 1000, Wait: 3}), 1000, 1, uint64(window + 2), 0, 0, 0, true})
	}
}

// TestOfferOrder: an index is above that of the last item in flight, and of no other one.
func TestOfferOrder(t *testing.T) {
	s := made(t, 8, 1, 1)
	offers(t, s, 0, 5)
	for _, c := range []struct {
		index uint64
		e     api.Errno
	}{{0, api.ErrOrder}, {1, api.ErrOrder}, {4, api.ErrOrder}, {5, api.ErrOrder}, {6, api.OK}, {5, api.ErrOrder}, {6, api.ErrOrder}, {7, api.OK}, {9, api.OK}, {8, api.ErrOrder}} {
		was := stateOf(s)
		seq, e := s.Offer(c.index, 0)
		if e != c.e || (seq == 0) != (e != api.OK) {
			t.Errorf("P10.1: Offer(%d): %d, %d, want %d", c.index, seq, e, c.e)
		}
		if e != api.OK {
			wantState(t, "R4: Offer of what is not in order", s, was)
		}
	}
	acks(t, s, 3, 0, 7)
	seq, e := s.Offer(9, 0)
	if seq != 0 || e != api.ErrOrder {
		t.Errorf("P10.1: Offer of the last index, behind an Ack: %d, %d", seq, e)
	}
	acks(t, s, 4, 0, 9)
	wantState(t, "P10.2: an Ack that empties the window", s, state{room: 8, base: 4, next: 5})
	offers(t, s, 0, 9)
	acks(t, s, 5, 0, 9)
	offers(t, s, 0, 3, 4)
	acks(t, s, 7, 0, 4)
	offers(t, s, 0, 0, 1)
	wantState(t, "P10.1: Offer behind an Ack that emptied the window", s,
		state{6, []Flight{{Seq: 8, Index: 0, Wait: 1}, {Seq: 9, Index: 1, Wait: 1}}, 1, 7, 10, 0, 0, 0, true})
}

// TestOfferBounds offers at the bound of an index, of a time, and of a number.
func TestOfferBounds(t *testing.T) {
	for _, c := range []struct {
		seq, index, now uint64
		e               api.Errno
	}{
		{1, api.MaxNumber, 0, api.OK},
		{1, api.MaxNumber + 1, 0, api.ErrRange},
		{1, great, 0, api.ErrRange},
		{1, 1, api.MaxNumber, api.OK},
		{1, 1, api.MaxNumber + 1, api.ErrRange},
		{1, 1, great, api.ErrRange},
		{api.MaxNumber - 1, 1, 1, api.OK},
		{api.MaxNumber, 1, 1, api.OK},
		{api.MaxNumber, api.MaxNumber, api.MaxNumber, api.OK},
		{api.MaxNumber, api.MaxNumber, api.MaxNumber + 1, api.ErrRange},
		{api.MaxNumber, api.MaxNumber + 1, api.MaxNumber, api.ErrRange},
		{api.MaxNumber + 1, 1, 1, api.ErrRange},
	} {
		s := made(t, 8, 1, 1)
		s.base = c.seq - 1 // no test can make so many calls
		want := state{room: 8, base: c.seq - 1, next: c.seq}
		seq, e := s.Offer(c.index, c.now)
		if e == api.OK {
			want = state{7, []Flight{{Seq: c.seq, Index: c.index, Due: c.now, Wait: 1}}, c.index, c.seq - 1, c.seq + 1, 0, 0, c.now, true}
		}
		if e != c.e || e == api.OK && seq != c.seq || e != api.OK && seq != 0 {
			t.Errorf("P10.1: Offer(%d, %d) with the number %d: %d, %d, want %d", c.index, c.now, c.seq, seq, e, c.e)
		}
		wantState(t, "P10.1: Offer at the bounds", s, want)
	}
}

// TestLastNumber goes on behind the last number: it is sent and acknowledged, and none follows.
func TestLastNumber(t *testing.T) {
	s := made(t, 8, 1, 1)
	s.base = api.MaxNumber - 2
	offers(t, s, 0, 1, 2)
	for range 2 {
		seq, e := s.Offer(3, 0)
		if seq != 0 || e != api.ErrRange {
			t.Errorf("P10.1: Offer behind the last number: %d, %d", seq, e)
		}
	}
	wantFlights(t, "P10.2: Due of the last number", s.Due(0), Flight{api.MaxNumber - 1, 1, 0, 1, false, false}, Flight{api.MaxNumber, 2, 0, 1, false, false})
	_, e := s.Ack(api.MaxNumber+1, 0)
	wantError(t, "P10.2: Ack of the number behind the last one", e, api.ErrRange)
	acks(t, s, api.MaxNumber-2, 1, 0)
	wantState(t, "P10.2: Ack of the last number by a bit", s,
		state{6, []Flight{{api.MaxNumber - 1, 1, 1, 1, true, false}, {api.MaxNumber, 2, 1, 1, true, true}}, 2, api.MaxNumber - 2, api.MaxNumber + 1, 2, 0, 1, true})
	acks(t, s, api.MaxNumber, great, 2)
	wantState(t, "P10.2: Ack of the last number", s, state{room: 8, base: api.MaxNumber, next: api.MaxNumber + 1, sent: 2})
	_, e = s.Offer(3, 0)
	wantError(t, "P10.1: Offer behind the last number", e, api.ErrRange)
}
