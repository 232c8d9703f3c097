package send

import (
	"math"
	"math/rand"
	"slices"
	"testing"

	"watchfire/api"
)

// senders returns senders of which nothing, something and as much as fits is in flight, two near the last number, the zero one and nil.
func senders(t *testing.T) []*Sender {
	t.Helper()
	some := filled(t, 5)
	some.Due(5)
	some.Ack(2, 0b10)
	late := made(t, 3, 1048576, 1048576)
	late.base = api.MaxNumber - 1
	offers(t, late, api.MaxNumber, api.MaxNumber)
	last := made(t, 3, 1, 1048576)
	last.base = api.MaxNumber
	return []*Sender{nil, {}, made(t, 1, 1, 1), filled(t, 64), some, late, last}
}

// TestP1 calls everything with odd arguments, on odd senders: every call ends without a panic, and no window is exceeded.
func TestP1(t *testing.T) {
	r := rand.New(rand.NewSource(3))
	numbers := []uint64{0, 1, 2, 3, 5, 6, 62, 63, 64, 65, 66, api.MaxNumber - 1, api.MaxNumber, api.MaxNumber + 1, 1 << 63, great - 63, great - 2, great - 1, great}
	for range 200 {
		for _, s := range senders(t) {
			for range 100 {
				s.Offer(some(r, numbers...), some(r, numbers...))
				if r.Intn(4) == 0 {
					s.Due(some(r, numbers...))
				}
				if r.Intn(4) == 0 {
					s.Ack(some(r, numbers...), some(r, someBits(r), numbers[r.Intn(len(numbers))]))
				}
				is := stateOf(s)
				if len(is.list) > 64 || is.room < 0 || s != nil && is.room != s.window-len(is.list) {
					t.Fatalf("P7: %+v", is)
				}
			}
		}
	}
	for range 10000 {
		window := some(r, math.MinInt, -1, 0, 1, 64, 65, math.MaxInt)
		first, most := some(r, append(numbers, 1048576, 1048577)...), some(r, append(numbers, 1048576, 1048577)...)
		s, e := New(window, first, most)
		if (s == nil) != (e != api.OK) {
			t.Fatalf("P10.1: New(%d, %d, %d): %v, %d", window, first, most, s, e)
		}
	}
}

func TestR1(t *testing.T) {
	if n := math.MaxInt; uint64(n) != 1<<63-1 {
		t.Error("R1: int hasn't 64 bits")
	}
}

// TestR2: where several errors apply, the one that is named first is told.
func TestR2(t *testing.T) {
	for _, c := range []struct {
		window      int
		first, most uint64
	}{{0, 0, 0}, {0, 2, 1}, {65, 1, 1048577}, {-1, great, great}, {65, 0, great}} {
		s, e := New(c.window, c.first, c.most)
		if s != nil || e != api.ErrWindow {
			t.Errorf("R2: New(%d, %d, %d): %d", c.window, c.first, c.most, e)
		}
	}
	full := made(t, 2, 1, 1)
	offers(t, full, 0, 5, 9)
	roomy := made(t, 3, 1, 1)
	offers(t, roomy, 0, 5, 9)
	last := made(t, 3, 1, 1)
	last.base = api.MaxNumber - 2
	offers(t, last, 0, 5, 9)
	lastFull := made(t, 1, 1, 1)
	lastFull.base = api.MaxNumber - 1
	offers(t, lastFull, 0, 5)
	behind := made(t, 3, 1, 1)
	offers(t, behind, 0, api.MaxNumber)
	for _, c := range []struct {
		about      string
		s          *Sender
		index, now uint64
		e          api.Errno
	}{
		{"without room, not in order, out of range", full, 9, great, api.ErrWindow},
		{"without room, an index out of range", full, great, 0, api.ErrWindow},
		{"without room, not in order", full, 0, 0, api.ErrWindow},
		{"without room and a number", lastFull, 6, 0, api.ErrWindow},
		{"not in order, a time out of range", roomy, 9, great, api.ErrOrder},
		{"not in order, without a number", last, 9, 0, api.ErrOrder},
		{"not in order, without a number, a time out of range", last, 0, great, api.ErrOrder},
		{"without a number", last, 10, 0, api.ErrRange},
		{"without a number, all out of range", last, great, great, api.ErrRange},
		{"of the greatest index, behind it", behind, api.MaxNumber, great, api.ErrOrder},
		{"behind the greatest index", behind, api.MaxNumber + 1, 0, api.ErrRange},
	} {
		was := stateOf(c.s)
		seq, e := c.s.Offer(c.index, c.now)
		wantError(t, "R2: Offer "+c.about, e, c.e)
		if seq != 0 {
			t.Errorf("R3: Offer %s: %d", c.about, seq)
		}
		wantState(t, "R4: Offer "+c.about, c.s, was)
	}
}

// TestR3: beside an error, or false, there is nothing; and R4: nothing is changed, by Due neither.
func TestR3(t *testing.T) {
	for _, s := range senders(t) {
		was := stateOf(s)
		for _, n := range []uint64{was.next, was.next + 1, great} {
			index, e := s.Ack(n, great)
			if index != 0 || e == api.OK {
				t.Errorf("R3: Ack(%d): %d, %d", n, index, e)
			}
			wantState(t, "R4: Ack", s, was)
		}
		for _, n := range []uint64{api.MaxNumber + 1, great} {
			seq, e := s.Offer(n, n)
			if seq != 0 || e == api.OK {
				t.Errorf("R3: Offer(%d, %d): %d, %d", n, n, seq, e)
			}
			wantState(t, "R4: Offer", s, was)
			wantFlights(t, "P10.2: Due behind 2^40", s.Due(n))
			wantState(t, "P10.2: Due behind 2^40", s, was)
		}
		if was.wakes != (len(was.list) > 0) || !was.wakes && was.wake != 0 {
			t.Errorf("R3: Wake: %d, %v, of %+v", was.wake, was.wakes, was.list)
		}
	}
}

// spoil writes over flights, and over their spare capacity.
func spoil(l []Flight) {
	l = l[:cap(l)]
	for i := range l {
		l[i] = Flight{77, 77, 0, 77, true, true}
	}
}

// TestR6: what is answered is the caller's: what is done to it is seen neither in the sender nor in another answer, and it does not go on with the sender.
func TestR6(t *testing.T) {
	for _, many := range []int{0, 1, 3, 5, 63, 64} {
		for cum := range uint64(4) {
			s, same := filled(t, many), filled(t, many)
			for _, each := range []*Sender{s, same} {
				each.Ack(cum, 0b100)
			}
			kept, keptWas := s.List(), same.List()
			spoil(s.List())
			wantState(t, "R6: a List is changed", s, stateOf(same))
			wantFlights(t, "R6: two Lists share memory", kept, keptWas...)
			due, want := s.Due(5), same.Due(5)
			wantFlights(t, "R6: Due behind a List that is changed", due, want...)
			spoil(due)
			wantState(t, "R6: what Due returns is changed", s, stateOf(same))
			again, wanted := s.Due(9), same.Due(9)
			wantFlights(t, "R6: Due behind one that is changed", again, wanted...)
			for _, each := range []*Sender{s, same} {
				each.Ack(cum+1, great)
				each.Offer(100000, 9)
				each.Due(20)
			}
			wantFlights(t, "R6: what Due returned goes on with the sender", again, wanted...)
			spoil(kept)
			wantFlights(t, "R6: two answers share memory", again, wanted...)
			wantState(t, "R6: a List of old is changed", s, stateOf(same))
		}
	}
}

// TestR6Alone: what was answered stays, whatever becomes of the sender.
func TestR6Alone(t *testing.T) {
	s := filled(t, 5)
	list, due := s.List(), s.Due(5)
	listWas, dueWas := slices.Clone(list), slices.Clone(due)
	acks(t, s, 2, great, 20)
	offers(t, s, 6, 60, 70, 80)
	s.Due(100)
	acks(t, s, 8, 0, 80)
	offers(t, s, 6, 1, 2, 3)
	wantFlights(t, "R6: a List goes on with its sender", list, listWas...)
	wantFlights(t, "R6: what Due returned goes on with its sender", due, dueWas...)
}

// TestCut: neither part has spare capacity, so what is appended to one is seen nowhere else.
func TestCut(t *testing.T) {
	whole := []string{"a", "b", "c", "spare", "spare"}
	for n := range 4 {
		memory := slices.Clone(whole)
		off, rest := cut(memory[:3], n)
		if !slices.Equal(off, whole[:n]) || !slices.Equal(rest, whole[n:3]) || cap(off) != n || cap(rest) != 3-n {
			t.Errorf("cut(%d): %v, %v, of capacity %d and %d", n, off, rest, cap(off), cap(rest))
		}
		longer, other := append(off, "x"), append(rest, "y")
		if !slices.Equal(memory, whole) || longer[n] != "x" || other[3-n] != "y" {
			t.Errorf("cut(%d): what is appended is seen in %v", n, memory)
		}
	}
}

// TestR7: a nil sender does nothing.
func TestR7(t *testing.T) {
	var s *Sender
	for _, n := range []uint64{0, 1, 5, api.MaxNumber, great} {
		if seq, e := s.Offer(n, n); seq != 0 || e != api.ErrNil {
			t.Errorf("R7: Offer of a nil sender: %d, %d", seq, e)
		}
		if index, e := s.Ack(n, n); index != 0 || e != api.ErrNil {
			t.Errorf("R7: Ack of a nil sender: %d, %d", index, e)
		}
		wantFlights(t, "R7: Due of a nil sender", s.Due(n))
	}
	wantState(t, "R7: a nil sender", s, state{})
}

// TestZero: the zero sender has no room.
func TestZero(t *testing.T) {
	s := &Sender{}
	seq, e := s.Offer(1, 0)
	if seq != 0 || e != api.ErrWindow {
		t.Errorf("P10.1: Offer of the zero sender: %d, %d", seq, e)
	}
	acks(t, s, 0, great, 0)
	_, e = s.Ack(1, 0)
	wantError(t, "P10.2: Ack of the zero sender", e, api.ErrRange)
	wantFlights(t, "P10.2: Due of the zero sender", s.Due(0))
	wantState(t, "the zero sender", s, state{next: 1})
}

// TestR8: the same calls have the same answers, whatever is asked of other senders between them.
func TestR8(t *testing.T) {
	for seed := range int64(20) {
		var all []*rand.Rand
		var models []*model
		var those []*Sender
		for _, seed := range []int64{seed, seed, seed + 1000} {
			r := rand.New(rand.NewSource(seed))
			m := someModel(r)
			s := made(t, m.window, m.first, m.most)
			s.base = m.start
			all, models, those = append(all, r), append(models, m), append(those, s)
		}
		for now := range uint64(100) {
			for i, s := range those {
				step(t, all[i], s, models[i], now)
			}
		}
		wantState(t, "R8: the same calls", those[0], stateOf(those[1]))
	}
}
