package sess

import (
	"testing"

	"watchfire/api"
	"watchfire/frame"
)

// flying returns a sending end in its session 2, of which numbers 1 to 4, which are the indexes 10, 20, 30 and 40, are in flight; and the life 7 of the other end was seen.
func flying(t *testing.T) *Out {
	t.Helper()
	o := newOut(t, times())
	acks(t, o, ack(epochOf(1), 0, 0, inLife), 0)
	wantError(t, "P12.1: Restart", o.Restart(), api.OK)
	fills(t, "P12.1: four", o, waiting(t, 0, 10, 20, 30, 40), 5, 4)
	return o
}

// TestAckKind: a frame of each other kind is refused, whatever else is wrong with it (R2).
func TestAckKind(t *testing.T) {
	o := flying(t)
	is := outStateOf(o)
	for kind := range 256 {
		if kind == frame.Ack {
			continue
		}
		for _, f := range []frame.Frame{
			ack(epochOf(2), 1, 0, inLife),
			ack(epochOf(2), 1, 0, inLife+1),
			ack(epochOf(2), 5, 0, inLife),
			ack(epochOf(1), 1, 0, inLife),
			{From: 9, To: 9, Epoch: epochOf(1), Life: inLife + 1},
			{},
		} {
			f.Kind = uint8(kind)
			wantAck(t, "P12.2: another kind", o, f, api.ErrKind)
			wantOut(t, "R4: another kind", o, is)
		}
	}
}

// TestAckLink: a frame that isn't from the other end to this one is refused, whatever else is wrong with it.
func TestAckLink(t *testing.T) {
	o := flying(t)
	is := outStateOf(o)
	for from := range 256 {
		for to := range 256 {
			if from == 1 && to == 2 {
				continue
			}
			for _, f := range []frame.Frame{ack(epochOf(2), 1, 0, inLife), ack(epochOf(2), 1, 0, inLife+1), ack(epochOf(1), 9, 0, 1)} {
				f.From, f.To = uint8(from), uint8(to)
				wantAck(t, "P12.2: another link", o, f, api.ErrLink)
			}
			wantOut(t, "R4: another link", o, is)
		}
	}
	acks(t, o, ack(epochOf(2), 1, 0, inLife), 10)
}

// TestAckNodes: whichever nodes the ends are, the acknowledgement goes the way back.
func TestAckNodes(t *testing.T) {
	for self := range uint8(32) {
		for peer := range uint8(32) {
			o, e := NewOut(self, peer, 1, times())
			if e != api.OK {
				continue
			}
			wantAck(t, "P12.2: the way there", o, frame.Frame{Kind: frame.Ack, From: self, To: peer, Epoch: 1048577, Life: 1}, api.ErrLink)
			acks(t, o, frame.Frame{Kind: frame.Ack, From: peer, To: self, Epoch: 1048577, Life: 1}, 0)
		}
	}
}

// TestAckEpoch: of each other epoch, and of an earlier life, it is old, whatever else is wrong with it; and that epoch's life isn't recorded.
func TestAckEpoch(t *testing.T) {
	o := flying(t)
	is := outStateOf(o)
	for _, epoch := range []uint64{0, 1, 2, 1048577, 1048578, epochOf(1), epochOf(3), epochOf(1 << 20), epochOf(2) + 1048576, epochOf(2) - 1048576, api.MaxNumber, great} {
		for _, life := range []uint64{0, 1, inLife - 1, inLife, inLife + 1, great} {
			for _, cum := range []uint64{0, 1, 4, 5, great} {
				wantAck(t, "P12.2: another epoch", o, ack(epoch, cum, 1, life), api.ErrOld)
				wantOut(t, "R4: another epoch", o, is)
			}
		}
	}
	acks(t, o, ack(epochOf(2), 1, 0, inLife), 10)
}

// TestAckEarlier: of a life that is below the greatest one, it is old.
func TestAckEarlier(t *testing.T) {
	o := flying(t)
	is := outStateOf(o)
	for _, life := range []uint64{0, 1, 2, inLife - 1} {
		for _, cum := range []uint64{0, 1, 4, 5, great} {
			wantAck(t, "P12.2: an earlier life", o, ack(epochOf(2), cum, 1, life), api.ErrOld)
			wantOut(t, "R4: an earlier life", o, is)
		}
	}
	acks(t, o, ack(epochOf(2), 4, 0, inLife), 40)
}

// TestAckFirst: the first life that is seen begins no session, whichever it is; from then on an earlier one is old, and a later one begins a session.
func TestAckFirst(t *testing.T) {
	for _, life := range []uint64{1, 2, inLife, 1048574, 1048575, api.MaxNumber, great} {
		o := newOut(t, times())
		fills(t, "P12.1: four", o, waiting(t, 0, 10, 20, 30, 40), 5, 4)
		acks(t, o, ack(epochOf(1), 1, 1, life), 10)
		is := outStateOf(o)
		if is.epoch != epochOf(1) || is.seen != life || is.base != 1 || len(is.list) != 3 || !is.list[1].Came {
			t.Errorf("P12.2: the first life %d: %+v", life, is)
		}
		wantAck(t, "P12.2: earlier than the first life", o, ack(epochOf(1), 2, 0, life-1), api.ErrOld)
		wantOut(t, "R4: earlier than the first life", o, is)
		acks(t, o, ack(epochOf(1), 2, 0, life), 20)
		if life == great {
			continue
		}
		wantAck(t, "P12.2: later than the first life", o, ack(epochOf(1), 3, 0, life+1), api.ErrEpoch)
		wantOut(t, "P12.2: later than the first life", o, outState{epoch: epochOf(2), seen: life + 1, room: 4, next: 1})
	}
}

// TestAckFirstRefused: a life is seen, and recorded, also where the sender refuses the acknowledgement.
func TestAckFirstRefused(t *testing.T) {
	o := newOut(t, times())
	wantAck(t, "P12.2: the sender refuses it", o, ack(epochOf(1), 1, 0, inLife), api.ErrRange)
	wantOut(t, "P12.2: the life is recorded", o, outState{epoch: epochOf(1), seen: inLife, room: 4, next: 1})
	wantAck(t, "P12.2: earlier than the first life", o, ack(epochOf(1), 0, 0, inLife-1), api.ErrOld)
	acks(t, o, ack(epochOf(1), 0, 0, inLife), 0)
	wantAck(t, "P12.2: later than the first life", o, ack(epochOf(1), 1, 0, inLife+1), api.ErrEpoch)
}

// TestAckNoLife: lives are counted from 1, so that 0 isn't one that was seen.
func TestAckNoLife(t *testing.T) {
	o := newOut(t, times())
	fills(t, "P12.1: four", o, waiting(t, 0, 10, 20, 30, 40), 5, 4)
	acks(t, o, ack(epochOf(1), 1, 0, 0), 10)
	acks(t, o, ack(epochOf(1), 2, 0, inLife), 20)
	wantAck(t, "P12.2: no life behind one", o, ack(epochOf(1), 3, 0, 0), api.ErrOld)
}

// TestAckLater: a later life begins a session with nothing in flight, and is recorded; what else the frame tells isn't taken in.
func TestAckLater(t *testing.T) {
	for _, life := range []uint64{inLife + 1, inLife + 2, 1048575, great} {
		for _, cum := range []uint64{0, 1, 4, 5, great} {
			o := flying(t)
			wantAck(t, "P12.2: a later life", o, ack(epochOf(2), cum, 1, life), api.ErrEpoch)
			is := outState{epoch: epochOf(3), seen: life, room: 4, next: 1}
			wantOut(t, "P12.2: a later life", o, is)
			for _, old := range []frame.Frame{ack(epochOf(2), cum, 1, life), ack(epochOf(3), 0, 0, inLife), ack(epochOf(3), 0, 0, life-1)} {
				wantAck(t, "P12.2: behind a later life", o, old, api.ErrOld)
				wantOut(t, "R4: behind a later life", o, is)
			}
			fills(t, "P12.1: a new session", o, waiting(t, 0, 10, 20, 30, 40), 6, 4)
			acks(t, o, ack(epochOf(3), 3, 0, life), 30)
		}
	}
}

// TestAckLives goes up through lives of the other end, each of which begins a session.
func TestAckLives(t *testing.T) {
	o := newOut(t, times())
	acks(t, o, ack(epochOf(1), 0, 0, 1), 0)
	for life := uint64(2); life < 100; life++ {
		wantAck(t, "P12.2: a life later", o, ack(epochOf(life-1), 0, 0, life), api.ErrEpoch)
		wantOut(t, "P12.2: a life later", o, outState{epoch: epochOf(life), seen: life, room: 4, next: 1})
		acks(t, o, ack(epochOf(life), 0, 0, life), 0)
	}
}

// TestAckSend: of this epoch and life, the answer is the sender's.
func TestAckSend(t *testing.T) {
	for _, c := range []struct {
		cum, bits uint64
		index     uint64
		e         api.Errno
		left      []uint64 // the indexes in flight
		came      []bool   // which of them came
	}{
		{0, 0, 0, api.OK, []uint64{10, 20, 30, 40}, []bool{false, false, false, false}},
		{0, 1, 0, api.OK, []uint64{10, 20, 30, 40}, []bool{false, true, false, false}},
		{0, 5, 0, api.OK, []uint64{10, 20, 30, 40}, []bool{false, true, false, true}},
		{0, great, 0, api.OK, []uint64{10, 20, 30, 40}, []bool{false, true, true, true}},
		{1, 0, 10, api.OK, []uint64{20, 30, 40}, []bool{false, false, false}},
		{1, 2, 10, api.OK, []uint64{20, 30, 40}, []bool{false, false, true}},
		{2, 1, 20, api.OK, []uint64{30, 40}, []bool{false, true}},
		{3, great, 30, api.OK, []uint64{40}, []bool{false}},
		{4, 0, 40, api.OK, nil, nil},
		{4, great, 40, api.OK, nil, nil},
		{5, 0, 0, api.ErrRange, []uint64{10, 20, 30, 40}, []bool{false, false, false, false}},
		{6, great, 0, api.ErrRange, []uint64{10, 20, 30, 40}, []bool{false, false, false, false}},
		{great, 1, 0, api.ErrRange, []uint64{10, 20, 30, 40}, []bool{false, false, false, false}},
	} {
		o := flying(t)
		index, e := o.Ack(ack(epochOf(2), c.cum, c.bits, inLife))
		if index != c.index || e != c.e {
			t.Errorf("P12.2: %d, %b: %d, %d, want %d, %d", c.cum, c.bits, index, e, c.index, c.e)
		}
		wantIndexes(t, "P12.2: the sender's answer", o, c.left...)
		var came []bool
		for _, f := range o.Sender().List() {
			came = append(came, f.Came)
		}
		wantShown(t, "P12.2: which came", came, c.came)
		if is := outStateOf(o); is.epoch != epochOf(2) || is.seen != inLife {
			t.Errorf("P12.2: the sender's answer: %+v", is)
		}
	}
}

// TestAckAgain: an acknowledgement that comes again, or late, removes nothing more.
func TestAckAgain(t *testing.T) {
	o := flying(t)
	acks(t, o, ack(epochOf(2), 2, 0, inLife), 20)
	is := outStateOf(o)
	for range 2 {
		for _, cum := range []uint64{2, 1, 0} {
			acks(t, o, ack(epochOf(2), cum, 0, inLife), 0)
			wantOut(t, "P12.2: again", o, is)
		}
	}
}
