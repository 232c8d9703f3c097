package sess

import (
	"testing"

	"watchfire/api"
	"watchfire/send"
	"watchfire/spool"
)

// TestRestart: nothing that was in flight, counted or acknowledged goes over into a new session.
func TestRestart(t *testing.T) {
	o := newOut(t, times())
	s := waiting(t, 0, upTo(9)...)
	for session := uint64(1); session < 20; session++ {
		first := o.Sender()
		fills(t, "P12.1: a session", o, s, 5, 4)
		wantIndexes(t, "P12.1: a session begins with what waits first", o, 1, 2, 3, 4)
		o.Frames(s, 5)
		o.Frames(s, 6)
		acks(t, o, ack(epochOf(session), 2, 1, inLife), 2)
		was := outStateOf(o)
		if session > 1 && was.seen != inLife {
			t.Errorf("P12.2: the life %d was seen", was.seen)
		}
		wantError(t, "P12.1: Restart", o.Restart(), api.OK)
		wantOut(t, "P12.1: Restart", o, outState{epoch: epochOf(session + 1), seen: inLife, room: 4, next: 1})
		if o.Sender() == first {
			t.Error("P12.1: Restart: the sender is the same")
		}
		if base, next, _, _ := first.Counts(); base != was.base || next != was.next || len(first.List()) != len(was.list) {
			t.Errorf("P12.1: Restart changes the sender ahead of it: %d, %d, %v", base, next, first.List())
		}
	}
}

// TestRestartTimes: each session's sender has the window and the intervals that were given.
func TestRestartTimes(t *testing.T) {
	for _, ts := range allAccepted() {
		o := newOut(t, ts)
		s := waiting(t, 0, upTo(70)...)
		for range 3 {
			fills(t, "P12.1: the window", o, s, 100, ts.Window)
			now, wait := uint64(100), ts.First
			for range 6 {
				if got := len(o.Frames(s, now)); got != ts.Window || len(o.Frames(s, now+wait-1)) != 0 {
					t.Errorf("P12.1: %+v: %d frames at %d, and some ahead of %d", ts, got, now, now+wait)
				}
				now += wait
				wait = min(2*wait, ts.Most)
			}
			wantError(t, "P12.1: Restart", o.Restart(), api.OK)
		}
	}
}

// TestRestartLast: session 1048575 is the last one of a life, whatever its life is.
func TestRestartLast(t *testing.T) {
	for _, life := range []uint64{1, outLife, 1048575} {
		o, e := NewOut(2, 1, life, times())
		wantError(t, "P12.1: NewOut", e, api.OK)
		for session := uint64(1); session < 1048575; session++ {
			if o.Epoch() != life*1048576+session {
				t.Fatalf("P12.1: session %d of life %d has the epoch %d", session, life, o.Epoch())
			}
			if e := o.Restart(); e != api.OK {
				t.Fatalf("P12.1: Restart of session %d: %d", session, e)
			}
		}
		wantLast(t, o, life)
	}
}

// wantLast makes everything that begins a new session, in the last one.
func wantLast(t *testing.T, o *Out, life uint64) {
	t.Helper()
	s := waiting(t, 0, upTo(9)...)
	last := life*1048576 + 1048575
	fills(t, "P12.1: the last session", o, s, 5, 4)
	acks(t, o, ack(last, 1, 0, inLife), 1)
	is, sender := outStateOf(o), o.Sender()
	if is.epoch != last || is.seen != inLife || len(is.list) != 3 {
		t.Fatalf("P12.1: the last session: %+v", is)
	}
	for range 3 {
		wantError(t, "P12.1: Restart of session 1048575", o.Restart(), api.ErrEpoch)
		wantOut(t, "R4: Restart of session 1048575", o, is)
		if o.Changed(1) {
			t.Error("P12.1: Changed in session 1048575 reports a new session")
		}
		wantOut(t, "P12.1: Changed in session 1048575", o, is)
	}
	wantAck(t, "P12.2: of a later life in session 1048575", o, ack(last, 2, 0, inLife+1), api.ErrEpoch)
	is.seen = inLife + 1
	wantOut(t, "P12.2: the later life is recorded", o, is)
	if o.Sender() != sender {
		t.Error("P12.1: in session 1048575 a new sender began")
	}
	wantAck(t, "P12.2: of the earlier life in session 1048575", o, ack(last, 2, 0, inLife), api.ErrOld)
	acks(t, o, ack(last, 2, 0, inLife+1), 2)
	wantIndexes(t, "P12.2: the later life's in session 1048575", o, 3, 4)
}

// TestEpoch: the epochs of a life rise by one, and all are above those of the life ahead of it.
func TestEpoch(t *testing.T) {
	var last uint64
	for _, life := range []uint64{1, 2, 3, 4, 1000, 1001, 1048574, 1048575} {
		o, e := NewOut(2, 1, life, times())
		wantError(t, "P12.1: NewOut", e, api.OK)
		for session := uint64(1); session <= 100; session++ {
			epoch := o.Epoch()
			if epoch != life*1048576+session || epoch <= last || epoch > api.MaxNumber {
				t.Fatalf("P12.1: session %d of life %d has the epoch %d behind %d", session, life, epoch, last)
			}
			last = epoch
			wantError(t, "P12.1: Restart", o.Restart(), api.OK)
		}
		last = life*1048576 + 1048575 // TestRestartLast goes on up to it
	}
}

func TestFillNothing(t *testing.T) {
	o := newOut(t, times())
	for _, s := range []*spool.Spool{waiting(t, 0), waiting(t, 7), nil, {}} {
		fills(t, "P12.1: nothing waits", o, s, 5, 0)
		wantOut(t, "P12.1: nothing waits", o, outState{epoch: epochOf(1), room: 4, next: 1})
	}
}

// TestFillRoom fills windows from spools of fewer items, as many and more, at once and bit by bit.
func TestFillRoom(t *testing.T) {
	for _, window := range []int{1, 2, 3, 4, 63, 64} {
		for waits := range 70 {
			o := newOut(t, Times{window, 1, 8})
			s := waiting(t, 0, upTo(waits)...)
			want := min(window, waits)
			fills(t, "P12.1: some room", o, s, 5, want)
			wantIndexes(t, "P12.1: some room", o, upTo(want)...)
			for _, f := range o.Sender().List() {
				if f != (send.Flight{Seq: f.Index, Index: f.Index, Due: 5, Wait: 1}) {
					t.Errorf("P12.1: Fill puts %+v in flight", f)
				}
			}
			fills(t, "P12.1: all is in flight, or no room is left", o, s, 6, 0)
			wantIndexes(t, "P12.1: all is in flight, or no room is left", o, upTo(want)...)
		}
	}
}

// TestFillBehind fills behind the last one in flight, as room is made and items come.
func TestFillBehind(t *testing.T) {
	o := newOut(t, times())
	s := waiting(t, 0, 3, 4, 9)
	fills(t, "P12.1: all", o, s, 5, 3)
	for count := uint64(4); count <= 8; count++ {
		if index, _, e := s.Put(numbered(count)); index != count+6 || e != api.OK {
			t.Fatalf("P8.2: Put: %d, %d", index, e)
		}
	}
	fills(t, "P12.1: room for one", o, s, 6, 1)
	wantIndexes(t, "P12.1: room for one", o, 3, 4, 9, 10)
	acks(t, o, ack(epochOf(1), 2, 0, inLife), 4)
	wantError(t, "P8.3: Ack", s.Ack(4), api.OK)
	fills(t, "P12.1: room for two of four", o, s, 7, 2)
	wantIndexes(t, "P12.1: room for two of four", o, 9, 10, 11, 12)
	acks(t, o, ack(epochOf(1), 5, 0, inLife), 11)
	wantError(t, "P8.3: Ack", s.Ack(11), api.OK)
	fills(t, "P12.1: room for three, two wait", o, s, 8, 2)
	wantIndexes(t, "P12.1: room for three, two wait", o, 12, 13, 14)
	wantFlight(t, o, send.Flight{Seq: 8, Index: 14, Due: 8, Wait: 1})
	acks(t, o, ack(epochOf(1), 8, 0, inLife), 14)
	wantError(t, "P8.3: Ack", s.Ack(14), api.OK)
	fills(t, "P12.1: all is acknowledged", o, s, 9, 0)
	wantIndexes(t, "P12.1: all is acknowledged", o)
}

// wantFlight holds the last item in flight against what it should be.
func wantFlight(t *testing.T, o *Out, want send.Flight) {
	t.Helper()
	l := o.Sender().List()
	if len(l) == 0 || l[len(l)-1] != want {
		t.Errorf("P12.1: in flight is %+v, want last %+v", l, want)
	}
}

// TestFillAcked: what is acknowledged in the spool is not put in flight, in a first session and a later one; what is not acknowledged there is put in flight again where it is no longer so.
func TestFillAcked(t *testing.T) {
	for acked := range uint64(9) {
		o := newOut(t, times())
		s := waiting(t, 0, upTo(8)...)
		if acked > 0 {
			wantError(t, "P8.3: Ack", s.Ack(acked), api.OK)
		}
		var want []uint64
		for index := acked + 1; index <= min(8, acked+4); index++ {
			want = append(want, index)
		}
		for range 2 {
			fills(t, "P12.1: behind those acknowledged", o, s, 5, len(want))
			wantIndexes(t, "P12.1: behind those acknowledged", o, want...)
			wantError(t, "P12.1: Restart", o.Restart(), api.OK)
		}
	}
	o, s := newOut(t, times()), waiting(t, 5, 7, 9)
	fills(t, "P12.1: two wait", o, s, 5, 2)
	acks(t, o, ack(epochOf(1), 2, 0, inLife), 9)
	fills(t, "P12.1: not acknowledged in the spool", o, s, 6, 2)
	wantIndexes(t, "P12.1: not acknowledged in the spool", o, 7, 9)
}

// TestFillLate: beyond the greatest time every offer is refused.
func TestFillLate(t *testing.T) {
	s := waiting(t, 0, upTo(9)...)
	for _, now := range []uint64{api.MaxNumber + 1, 1 << 63, great} {
		o := newOut(t, times())
		is := outStateOf(o)
		fills(t, "P12.1: an offer is refused", o, s, now, 0)
		wantOut(t, "P12.1: an offer is refused", o, is)
	}
	o := newOut(t, times())
	fills(t, "P12.1: the greatest time", o, s, api.MaxNumber, 4)
}

// TestFillOrder: an offer of an index that is not above the last one in flight is not made; the sender, which is there for inspection, may hold an index far above.
func TestFillOrder(t *testing.T) {
	s := waiting(t, 0, upTo(9)...)
	for index := uint64(1); index <= 12; index++ {
		o := newOut(t, times())
		o.Sender().Offer(index, 5)
		want := int(min(3, 9-min(index, 9)))
		fills(t, "P12.1: behind the last one in flight", o, s, 5, want)
		if l := o.Sender().List(); len(l) != 1+want || want > 0 && l[1].Index != index+1 {
			t.Errorf("P12.1: behind index %d: %+v", index, l)
		}
	}
}

func TestFrames(t *testing.T) {
	o := newOut(t, times())
	s := waiting(t, 0, 3, 5, 6, 9, 11)
	wantFrames(t, "P12.1: nothing is in flight", o.Frames(s, 5))
	fills(t, "P12.1: four of five", o, s, 5, 4)
	wantFrames(t, "P12.1: nothing is due", o.Frames(s, 4))
	one, two, three, four := data(epochOf(1), 1, numbered(1)), data(epochOf(1), 2, numbered(2)), data(epochOf(1), 3, numbered(3)), data(epochOf(1), 4, numbered(4))
	wantFrames(t, "P12.1: all are due", o.Frames(s, 5), one, two, three, four)
	wantFrames(t, "P12.1: none is due again", o.Frames(s, 5))
	wantFrames(t, "P12.1: all are due again", o.Frames(s, 6), one, two, three, four)
	acks(t, o, ack(epochOf(1), 1, 1, inLife), 3)
	wantError(t, "P8.3: Ack", s.Ack(3), api.OK)
	fills(t, "P12.1: the fifth", o, s, 7, 1)
	five := data(epochOf(1), 5, numbered(5))
	wantFrames(t, "P12.1: the fifth is due alone", o.Frames(s, 7), five)
	wantFrames(t, "P12.1: number 3 came", o.Frames(s, 8), two, four, five)
	wantFrames(t, "P12.1: beyond the greatest time", o.Frames(s, api.MaxNumber+1))
	wantFrames(t, "P12.1: far later", o.Frames(s, api.MaxNumber), two, four, five)
	wantError(t, "P12.1: Restart", o.Restart(), api.OK)
	wantFrames(t, "P12.1: nothing is in flight in a new session", o.Frames(s, 9))
	fills(t, "P12.1: a new session", o, s, 9, 4)
	wantFrames(t, "P12.1: a new session's epoch and numbers", o.Frames(s, 9),
		data(epochOf(2), 1, numbered(2)), data(epochOf(2), 2, numbered(3)), data(epochOf(2), 3, numbered(4)), data(epochOf(2), 4, numbered(5)))
}

// TestFramesNodes: frames are from this node to the other one.
func TestFramesNodes(t *testing.T) {
	s := waiting(t, 0, 1)
	for self := range uint8(32) {
		for peer := range uint8(32) {
			o, e := NewOut(self, peer, 1, times())
			if e != api.OK {
				continue
			}
			fills(t, "P12.1: one", o, s, 5, 1)
			want := data(1048577, 1, numbered(1))
			want.From, want.To = self, peer
			wantFrames(t, "P12.1: from this node to the other one", o.Frames(s, 5), want)
		}
	}
}

// TestFramesGone: an item whose index is no longer in the spool is not sent, nor is another one in its place; it counts as sent all the same, as the sender knows of no spool.
func TestFramesGone(t *testing.T) {
	for _, c := range []struct {
		about string
		s     *spool.Spool
		want  []uint64 // the numbers that are sent
	}{
		{"all are there", waiting(t, 0, 3, 5, 6, 9), []uint64{1, 2, 3, 4}},
		{"others beside them", waiting(t, 0, 2, 3, 4, 5, 6, 7, 9, 10), []uint64{1, 2, 3, 4}},
		{"the first is gone", waiting(t, 0, 5, 6, 9), []uint64{2, 3, 4}},
		{"the first is acknowledged", waiting(t, 4, 5, 6, 9), []uint64{2, 3, 4}},
		{"one between is gone", waiting(t, 0, 3, 6, 9), []uint64{1, 3, 4}},
		{"others are in their places", waiting(t, 0, 2, 4, 6, 8), []uint64{3}},
		{"the last is gone", waiting(t, 0, 3, 5, 6), []uint64{1, 2, 3}},
		{"one ahead waits", waiting(t, 0, 2), nil},
		{"one behind waits", waiting(t, 0, 10), nil},
		{"none waits", waiting(t, 0), nil},
		{"all are acknowledged", waiting(t, 9), nil},
		{"no spool", nil, nil},
		{"the zero spool", &spool.Spool{}, nil},
	} {
		o := newOut(t, times())
		fills(t, "P12.1: all", o, waiting(t, 0, 3, 5, 6, 9), 5, 4)
		indexes := []uint64{3, 5, 6, 9}
		for round, now := range []uint64{5, 6} {
			var sent []uint64
			for _, f := range o.Frames(c.s, now) {
				sent = append(sent, f.Seq)
				if at, _ := c.s.Find(indexes[f.Seq-1]); show(f) != show(data(epochOf(1), f.Seq, at.Item)) {
					t.Errorf("P12.1: %s: %+v, where there was %+v", c.about, f, at)
				}
			}
			wantShown(t, "P12.1: "+c.about+": the numbers sent", sent, c.want)
			if is := outStateOf(o); is.sent != uint64(4*(round+1)) || is.again != uint64(4*round) {
				t.Errorf("P12.1: %s: %+v", c.about, is)
			}
		}
	}
}

// TestFramesAsNow: what is sent is the item that the spool has now, also where it had another one when it was put in flight.
func TestFramesAsNow(t *testing.T) {
	o := newOut(t, times())
	fills(t, "P12.1: two", o, waiting(t, 0, 1, 2), 5, 2)
	b := waiting(t, 0, 1, 2).Base()
	b.List[0].Item = api.Item{IsGap: true, Gap: api.Gap{Origin: 2, From: 1, To: 1}}
	s, e := spool.Of(api.MaxQuota, b)
	wantError(t, "P8.3: Of", e, api.OK)
	wantFrames(t, "P12.1: the items that the spool has", o.Frames(s, 5), data(epochOf(1), 1, b.List[0].Item), data(epochOf(1), 2, numbered(2)))
}

func TestChanged(t *testing.T) {
	for _, c := range []struct {
		indexes []uint64
		from    uint64
		want    bool
	}{
		{nil, 0, false}, {nil, 1, false}, {nil, 4, false}, {nil, great, false},
		{[]uint64{1}, 0, false}, {[]uint64{1}, 1, true}, {[]uint64{1}, 2, false},
		{[]uint64{4, 6, 9}, 0, false},
		{[]uint64{4, 6, 9}, 1, true},
		{[]uint64{4, 6, 9}, 3, true},
		{[]uint64{4, 6, 9}, 4, true},
		{[]uint64{4, 6, 9}, 5, true},
		{[]uint64{4, 6, 9}, 8, true},
		{[]uint64{4, 6, 9}, 9, true},
		{[]uint64{4, 6, 9}, 10, false},
		{[]uint64{4, 6, 9}, 11, false},
		{[]uint64{4, 6, 9}, api.MaxNumber, false},
		{[]uint64{4, 6, 9}, great, false},
	} {
		o := newOut(t, times())
		s := waiting(t, 0, c.indexes...)
		fills(t, "P12.1: all", o, s, 5, len(c.indexes))
		o.Frames(s, 5)
		want := outStateOf(o)
		if c.want {
			want = outState{epoch: epochOf(2), room: 4, next: 1}
		}
		if got := o.Changed(c.from); got != c.want {
			t.Errorf("P12.1: Changed(%d), where %v are in flight: %v", c.from, c.indexes, got)
		}
		wantOut(t, "P12.1: Changed", o, want)
	}
}

// TestChangedAcked: nothing begins where all that was changed is no longer in flight, though it is not acknowledged in the spool yet.
func TestChangedAcked(t *testing.T) {
	o := newOut(t, times())
	s := waiting(t, 0, 4, 6, 9)
	fills(t, "P12.1: all", o, s, 5, 3)
	acks(t, o, ack(epochOf(1), 3, 0, inLife), 9)
	is := outStateOf(o)
	for from := range uint64(12) {
		if o.Changed(from) {
			t.Errorf("P12.1: Changed(%d), where nothing is in flight any more", from)
		}
		wantOut(t, "P12.1: Changed, where nothing is in flight any more", o, is)
	}
	s = waiting(t, 9, 10, 12)
	fills(t, "P12.1: two more", o, s, 6, 2)
	acks(t, o, ack(epochOf(1), 3, 1, inLife), 0)
	if o.Changed(13) || !o.Changed(12) || o.Changed(12) {
		t.Error("P12.1: Changed of the last one in flight, which a bit acknowledged")
	}
	wantOut(t, "P12.1: Changed", o, outState{epoch: epochOf(2), seen: inLife, room: 4, next: 1})
}
