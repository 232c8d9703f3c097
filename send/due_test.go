package send

import (
	"slices"
	"testing"

	"watchfire/api"
)

// sentAt calls Due at each time up to one, and returns at which times something was sent.
func sentAt(s *Sender, to uint64) []uint64 {
	var times []uint64
	for now := range to + 1 {
		if len(s.Due(now)) > 0 {
			times = append(times, now)
		}
	}
	return times
}

// TestDueTimes: an item is sent when it is offered, and again each time after twice as long, up to most.
func TestDueTimes(t *testing.T) {
	for _, c := range []struct {
		offered, first, most uint64
		want                 []uint64
	}{
		{0, 1, 1, []uint64{0, 1, 2, 3, 4, 5}},
		{3, 1, 2, []uint64{3, 4, 6, 8, 10, 12, 14, 16}},
		{3, 2, 3, []uint64{3, 5, 8, 11, 14, 17}},
		{0, 3, 11, []uint64{0, 3, 9, 20, 31, 42}},
		{7, 3, 12, []uint64{7, 10, 16, 28, 40, 52}},
		{7, 3, 13, []uint64{7, 10, 16, 28, 41, 54}},
		{1, 5, 5, []uint64{1, 6, 11, 16}},
		{10, 1, 1048576, []uint64{10, 11, 13, 17, 25, 41, 73, 137, 265}},
	} {
		s := made(t, 3, c.first, c.most)
		offers(t, s, c.offered, 4)
		if got := sentAt(s, c.want[len(c.want)-1]); !slices.Equal(got, c.want) {
			t.Errorf("P10.2: first %d, most %d: sent at %v, want %v", c.first, c.most, got, c.want)
		}
	}
}

// TestDueBetween asks for what is due before, at and behind the time, and holds everything that the sender tells against it.
func TestDueBetween(t *testing.T) {
	s := made(t, 3, 2, 7)
	offers(t, s, 10, 6)
	is := Flight{Seq: 1, Index: 6, Due: 10, Wait: 2}
	want := state{2, []Flight{is}, 6, 0, 2, 0, 0, 10, true}
	for _, c := range []struct{ now, due, wait uint64 }{
		{0, 0, 0}, {9, 0, 0}, {10, 12, 4}, {10, 0, 0}, {11, 0, 0}, {12, 16, 7}, {12, 0, 0}, {15, 0, 0}, {20, 27, 7}, {19, 0, 0}, {26, 0, 0}, {27, 34, 7}, {33, 0, 0}, {1000, 1007, 7},
		{api.MaxNumber, api.MaxNumber + 7, 7}, {api.MaxNumber, 0, 0}, {api.MaxNumber + 1, 0, 0}, {api.MaxNumber + 7, 0, 0}, {great, 0, 0},
	} {
		got := s.Due(c.now)
		if c.wait == 0 {
			wantFlights(t, "P10.2: Due when nothing is", got)
			wantState(t, "P10.2: Due when nothing is", s, want)
			continue
		}
		wantFlights(t, "P10.2: Due", got, is)
		if is.Sent {
			want.again++
		}
		want.sent++
		is.Due, is.Wait, is.Sent = c.due, c.wait, true
		want.list[0], want.wake = is, c.due
		wantState(t, "P10.2: Due", s, want)
	}
}

// TestDueBound: behind 2^40 nothing is due, also what was due long ago.
func TestDueBound(t *testing.T) {
	s := made(t, 3, 2, 7)
	offers(t, s, 1, 6)
	was := stateOf(s)
	for _, now := range []uint64{api.MaxNumber + 1, api.MaxNumber + 2, great} {
		wantFlights(t, "P10.2: Due behind 2^40", s.Due(now))
		wantState(t, "P10.2: Due behind 2^40", s, was)
	}
	wantFlights(t, "P10.2: Due at 2^40", s.Due(api.MaxNumber), was.list...)
}

// TestDueMany: of several items those are sent that are due, in order, each with an interval of its own.
func TestDueMany(t *testing.T) {
	s := made(t, 8, 1, 8)
	offers(t, s, 5, 10)
	offers(t, s, 3, 20)
	wantFlights(t, "P10.2: Due of the second one", s.Due(4), Flight{2, 20, 3, 1, false, false})
	offers(t, s, 4, 30, 40)
	if wake, ok := s.Wake(); wake != 4 || !ok {
		t.Errorf("P10.3: Wake: %d, %v", wake, ok)
	}
	acks(t, s, 0, 0b10, 0) // the third one, which was never sent
	wantFlights(t, "P10.2: Due of three", s.Due(5),
		Flight{1, 10, 5, 1, false, false}, Flight{2, 20, 5, 2, true, false}, Flight{4, 40, 4, 1, false, false})
	wantState(t, "P10.2: Due of three", s, state{4, []Flight{
		{1, 10, 6, 2, true, false}, {2, 20, 7, 4, true, false}, {3, 30, 4, 1, false, true}, {4, 40, 6, 2, true, false},
	}, 40, 0, 5, 4, 1, 6, true})
	wantFlights(t, "P10.2: Due of two", s.Due(6), Flight{1, 10, 6, 2, true, false}, Flight{4, 40, 6, 2, true, false})
	acks(t, s, 1, 0, 10)
	wantFlights(t, "P10.2: Due behind an Ack", s.Due(9), Flight{2, 20, 7, 4, true, false}, Flight{4, 40, 8, 4, true, false})
	wantState(t, "P10.2: Due behind an Ack", s, state{5, []Flight{
		{2, 20, 13, 8, true, false}, {3, 30, 4, 1, false, true}, {4, 40, 13, 8, true, false},
	}, 40, 1, 5, 8, 5, 13, true})
	acks(t, s, 2, 0, 20)
	wantFlights(t, "P10.2: Due of one that was acknowledged by a bit, and is first", s.Due(9), Flight{3, 30, 4, 1, false, false})
	wantState(t, "P10.2: Due of one that is first", s, state{6, []Flight{
		{3, 30, 10, 2, true, false}, {4, 40, 13, 8, true, false},
	}, 40, 2, 5, 9, 5, 10, true})
}

// TestDueGreatest waits as long as may be.
func TestDueGreatest(t *testing.T) {
	s := made(t, 1, 1048575, 1048576)
	offers(t, s, 0, 1)
	for _, f := range []Flight{{1, 1, 0, 1048575, false, false}, {1, 1, 1048575, 1048576, true, false}, {1, 1, 2097151, 1048576, true, false}} {
		if f.Due > 0 {
			wantFlights(t, "P10.2: Due too early", s.Due(f.Due-1))
		}
		wantFlights(t, "P10.2: Due", s.Due(f.Due), f)
	}
	wantState(t, "P10.2: Due", s, state{0, []Flight{{1, 1, 3145727, 1048576, true, false}}, 1, 0, 2, 3, 2, 3145727, true})
}

// TestWake: the earliest of the times at which those are due that are not acknowledged.
func TestWake(t *testing.T) {
	s := made(t, 8, 4, 4)
	for i, now := range []uint64{9, 7, 3, 5, 8} {
		offers(t, s, now, uint64(i+1))
	}
	for _, c := range []struct {
		cum, bits uint64
		wake      uint64
		wakes     bool
	}{{0, 0, 3, true}, {0, 0b10, 5, true}, {0, 0b100, 7, true}, {0, 0b1000, 7, true}, {0, 0b1, 9, true}, {1, 0, 7, true}, {2, 0, 3, true}, {3, 0, 5, true}, {4, 0, 8, true}, {5, 0, 0, false}} {
		s.Ack(c.cum, c.bits)
		if wake, ok := s.Wake(); wake != c.wake || ok != c.wakes {
			t.Errorf("P10.3: Wake behind Ack(%d, %b): %d, %v, want %d, %v", c.cum, c.bits, wake, ok, c.wake, c.wakes)
		}
	}
}
