package recv

import (
	"testing"

	"watchfire/api"
	"watchfire/send"
)

// TestAckNothing: where nothing is held, no bit is set.
func TestAckNothing(t *testing.T) {
	for _, window := range []int{1, 2, 63, 64} {
		for _, taken := range []uint64{0, 1, 64, 100} {
			r := behind(t, window, taken)
			for range 3 {
				wantState(t, "P11.2: nothing is held", r, state{cum: taken, want: taken + 1})
			}
		}
	}
}

// TestAckExpected: no bit tells of the expected item, though it is held.
func TestAckExpected(t *testing.T) {
	for _, window := range []int{1, 2, 63, 64} {
		for _, taken := range []uint64{0, 1, 64, 100} {
			r := behind(t, window, taken)
			takes(t, r, taken+1)
			for range 3 {
				wantState(t, "P11.2: the expected item alone is held", r, state{numbered(taken + 1), true, taken, 0, taken + 1, 1, 0})
			}
			wantError(t, "P11.1: Next", r.Next(), api.OK)
			wantState(t, "P11.2: the expected item is taken over", r, state{cum: taken + 1, want: taken + 2})
		}
	}
}

// TestAckBit sets each bit alone, of the windows in which it lies, behind some items, without the expected one and with it.
func TestAckBit(t *testing.T) {
	for i := range 63 {
		for window := i + 2; window <= 64; window++ {
			for _, taken := range []uint64{0, 1, 70} {
				r := behind(t, window, taken)
				seq := taken + 2 + uint64(i)
				takes(t, r, seq)
				is := state{cum: taken, bits: 1 << i, want: taken + 1, held: 1}
				wantState(t, "P11.2: one bit", r, is)
				takes(t, r, taken+1)
				is.first, is.found, is.held = numbered(taken+1), true, 2
				wantState(t, "P11.2: one bit, and the expected item", r, is)
				wantError(t, "P11.1: Next", r.Next(), api.OK)
				is = state{cum: taken + 1, bits: 1 << i >> 1, want: taken + 2, held: 1}
				if i == 0 {
					is.first, is.found = numbered(seq), true
				}
				wantState(t, "P11.2: one bit behind Next", r, is)
			}
		}
	}
}

// TestAckBits sets all bits of every window one by one, from the first one on and from the last one on; and takes all over, one by one.
func TestAckBits(t *testing.T) {
	for window := uint64(1); window <= 64; window++ {
		for _, fromLast := range []bool{false, true} {
			r := made(t, int(window))
			is := state{want: 1}
			for n := range window - 1 {
				i := n
				if fromLast {
					i = window - 2 - n
				}
				takes(t, r, 2+i)
				is.bits |= 1 << i
				is.held++
				wantState(t, "P11.2: several bits", r, is)
			}
			if is.bits != 1<<(window-1)-1 {
				t.Errorf("P11.2: the test sets the bits %b of a window of %d", is.bits, window)
			}
			takes(t, r, 1)
			is.first, is.found = numbered(1), true
			is.held++
			wantState(t, "P11.2: all bits, and the expected item", r, is)
			for is.held > 0 {
				wantError(t, "P11.1: Next", r.Next(), api.OK)
				is.cum, is.want, is.held, is.bits = is.cum+1, is.want+1, is.held-1, is.bits>>1
				is.first, is.found = numbered(is.want), is.held > 0
				if !is.found {
					is.first = api.Item{}
				}
				wantState(t, "P11.2: all bits behind Next", r, is)
			}
		}
	}
}

// TestCounts: old are only those that Take refused as old; what is refused otherwise is not counted.
func TestCounts(t *testing.T) {
	r := made(t, 4)
	bad := api.Item{}
	for i, c := range []struct {
		seq  uint64
		x    api.Item
		e    api.Errno
		want uint64
		held int
		old  uint64
	}{
		{0, numbered(1), api.ErrOld, 1, 0, 1},
		{5, numbered(5), api.ErrWindow, 1, 0, 1},
		{1, bad, api.ErrRange, 1, 0, 1},
		{2, numbered(2), api.OK, 1, 1, 1},
		{2, numbered(2), api.ErrOld, 1, 1, 2},
		{2, bad, api.ErrOld, 1, 1, 3},
		{4, numbered(4), api.OK, 1, 2, 3},
		{great, bad, api.ErrWindow, 1, 2, 3},
		{1, numbered(1), api.OK, 1, 3, 3},
		{1, numbered(1), api.ErrOld, 1, 3, 4},
	} {
		wantError(t, "P11.1: Take", r.Take(c.seq, c.x), c.e)
		if want, held, old := r.Counts(); want != c.want || held != c.held || old != c.old {
			t.Errorf("P11.2: Counts behind call %d: %d, %d, %d, want %d, %d, %d", i+1, want, held, old, c.want, c.held, c.old)
		}
	}
	wantError(t, "P11.1: Next", r.Next(), api.OK)
	wantError(t, "P11.1: Next", r.Next(), api.OK)
	wantError(t, "P11.1: Next", r.Next(), api.ErrNone)
	wantState(t, "P11.2: Counts behind Next", r, state{cum: 2, bits: 1, want: 3, held: 1, old: 4})
	wantError(t, "P11.1: Take of what was taken over", r.Take(2, numbered(2)), api.ErrOld)
	wantState(t, "P11.2: Counts behind an old one", r, state{cum: 2, bits: 1, want: 3, held: 1, old: 5})
}

// TestWithSend sends 300 items over a link that loses, doubles and turns round, both ways: what Ack tells is understood by a sender, and each item is taken over once, in order.
func TestWithSend(t *testing.T) {
	for _, window := range []int{1, 2, 7, 64} {
		r := made(t, window)
		s, e := send.New(window, 1, 4)
		wantError(t, "P10.1: New", e, api.OK)
		offered, many, frames := uint64(0), 0, 0
		for now := uint64(0); now < 30000 && many < 300; now++ {
			for s.Room() > 0 && offered < 300 {
				offered++
				_, e := s.Offer(offered, now)
				wantError(t, "P10.1: Offer", e, api.OK)
			}
			due := s.Due(now)
			for i := range due {
				frames++
				seq := due[len(due)-1-i].Seq
				for range frames % 3 { // lost, sent, doubled
					r.Take(seq, numbered(seq))
				}
			}
			many += passes(t, r)
			if now%3 == 0 {
				_, e := s.Ack(r.Ack())
				wantError(t, "P10.2: Ack of what a receiver tells", e, api.OK)
			}
		}
		if want, held, _ := r.Counts(); many != 300 || want != 301 || held != 0 {
			t.Errorf("P11.1: a window of %d: %d items are taken over, of 300; %d are held, and %d is expected", window, many, held, want)
		}
	}
}
