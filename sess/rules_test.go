package sess

import (
	"math"
	"math/rand"
	"testing"

	"watchfire/api"
	"watchfire/frame"
	"watchfire/item"
	"watchfire/spool"
)

// outs returns sending ends of which nothing, something and as much as fits is in flight, in first, later and last sessions; the zero one and nil.
func outs(t *testing.T) []*Out {
	t.Helper()
	full := newOut(t, Times{64, 1, 1048576})
	full.Fill(waiting(t, 0, upTo(70)...), 5)
	last := flying(t)
	last.session = 1048575 // TestRestartLast gets there by Restart
	own := newOut(t, times())
	own.Sender().Offer(0, 0)
	own.Sender().Offer(api.MaxNumber, api.MaxNumber)
	return []*Out{nil, {}, newOut(t, times()), newOut(t, Times{1, 1, 1}), flying(t), full, last, own}
}

// ins returns receiving ends ahead of an epoch and behind one, which hold nothing and something; the zero one and nil.
func ins(t *testing.T) []*In {
	t.Helper()
	last := newIn(t, 1)
	last.Data(data(great, 1, numbered(1)))
	return []*In{nil, {}, newIn(t, 1), newIn(t, 64), holding(t), last}
}

// spools returns a spool in which nothing waits, and others; the zero one and nil.
func spools(t *testing.T) []*spool.Spool {
	t.Helper()
	return []*spool.Spool{nil, {}, waiting(t, 0), waiting(t, 0, upTo(70)...), waiting(t, 9, 10, 20, 30), waiting(t, 0, api.MaxNumber-1), waiting(t, api.MaxNumber-1)}
}

// oddFrame returns a frame of fields near the limits.
func oddFrame(r *rand.Rand, epoch uint64) frame.Frame {
	numbers := []uint64{0, 1, 2, 4, 5, inLife, inLife + 1, epoch - 1, epoch, epoch + 1, api.MaxNumber, api.MaxNumber + 1, 1 << 63, great}
	f := frame.Frame{Kind: some(r, uint8(0), 1, 1, 2, 2, 3, 255), From: some(r, uint8(0), 1, 2, 31, 32, 255), To: some(r, uint8(0), 1, 2, 31, 32, 255),
		Epoch: some(r, numbers...), Seq: some(r, numbers...), Cum: some(r, numbers...), Bits: some(r, numbers...), Life: some(r, numbers...)}
	f.Item = someItem(r)
	if r.Intn(3) == 0 {
		f.Item = api.Item{IsGap: r.Intn(2) == 0, Event: api.Event{Origin: 255, Seq: great, Rule: "\xff", Labels: make([]api.Pair, 300), Own: 255}, Gap: api.Gap{Origin: 255, From: great, To: 1}}
	}
	if r.Intn(2) == 0 {
		f.From, f.To, f.Epoch = some(r, uint8(1), 2, 0), some(r, uint8(1), 2, 0), epoch
	}
	return f
}

// TestP1 calls everything with odd arguments, on odd ends: every call ends without a panic, and no window is exceeded.
func TestP1(t *testing.T) {
	r := rand.New(rand.NewSource(3))
	for range 50 {
		all := spools(t)
		for _, o := range outs(t) {
			for range 100 {
				s, now := some(r, all...), some[uint64](r, 0, 1, 5, 6, api.MaxNumber, api.MaxNumber+1, great)
				some(r,
					func() { o.Restart() },
					func() { o.Fill(s, now) },
					func() { o.Frames(s, now) },
					func() { o.Changed(some[uint64](r, 0, 1, 5, 40, 41, great)) },
					func() { o.Ack(oddFrame(r, o.Epoch())) },
					func() { o.Ack(oddFrame(r, o.Epoch())) },
				)()
				if is := outStateOf(o); is.room < 0 || len(is.list)+is.room > 64 || o != nil && len(is.list) > max(o.times.Window, 0) {
					t.Fatalf("P7: %+v", is)
				}
			}
		}
		for _, i := range ins(t) {
			for range 100 {
				i.Data(oddFrame(r, i.Epoch()))
				if is := inStateOf(i); is.held < 0 || is.held > 64 || i != nil && is.held > i.window {
					t.Fatalf("P7: %+v", is)
				}
			}
		}
	}
	for range 10000 {
		ts := Times{some(r, math.MinInt, -1, 0, 1, 64, 65, math.MaxInt), some[uint64](r, 0, 1, 2, 1048576, great), some[uint64](r, 0, 1, 2, 1048576, 1048577, great)}
		self, peer, life := uint8(r.Intn(256)), uint8(r.Intn(40)), some[uint64](r, 0, 1, 1048575, 1048576, great)
		if o, e := NewOut(self, peer, life, ts); (o == nil) != (e != api.OK) {
			t.Fatalf("P12.1: NewOut: %v, %d", o, e)
		}
		if i, e := NewIn(self, peer, life, ts.Window); (i == nil) != (e != api.OK) {
			t.Fatalf("P12.3: NewIn: %v, %d", i, e)
		}
	}
}

func TestR1(t *testing.T) {
	if n := math.MaxInt; uint64(n) != 1<<63-1 {
		t.Error("R1: int hasn't 64 bits")
	}
}

// TestR3: beside an error the index is 0, and beside false there is no frame; and R4: nothing is changed but what the chapter names.
func TestR3(t *testing.T) {
	r := rand.New(rand.NewSource(4))
	for range 100 {
		for _, o := range outs(t) {
			is, f := outStateOf(o), oddFrame(r, o.Epoch())
			index, e := o.Ack(f)
			if e == api.OK {
				continue
			}
			if index != 0 {
				t.Errorf("R3: Ack: %d, %d", index, e)
			}
			if e == api.ErrKind || e == api.ErrLink || e == api.ErrOld {
				wantOut(t, "R4: Ack", o, is)
			}
		}
		for _, i := range ins(t) {
			if f, ok := i.Answer(); !ok && show(f) != show(frame.Frame{}) {
				t.Errorf("R3: Answer: %+v, false", f)
			}
			is, f := inStateOf(i), oddFrame(r, i.Epoch())
			if e := i.Data(f); f.Epoch < is.epoch || e == api.ErrKind || e == api.ErrLink {
				wantIn(t, "R4: Data", i, is)
			}
		}
	}
}

// whole returns an event, and a gap that has an event beside it, with spare capacity behind their labels.
func whole() []api.Item {
	event := numbered(1)
	event.Event.Labels = append(make([]api.Pair, 0, 8), event.Event.Labels...)
	gap := item.Gap(2, 1, 9)
	gap.Event = numbered(7).Event
	gap.Event.Labels = append(make([]api.Pair, 0, 8), gap.Event.Labels...)
	return []api.Item{event, gap}
}

// TestR6Data: what is held is answered as it came, whatever is done with what was handed in; and that isn't written over, its spare capacity neither.
func TestR6Data(t *testing.T) {
	for _, x := range whole() {
		was := item.Clone(x)
		i := newIn(t, 4)
		wantError(t, "P12.3: Data", i.Data(data(5, 1, x)), api.OK)
		wantError(t, "P12.3: Data, again", i.Data(data(5, 1, x)), api.ErrOld)
		wantError(t, "P12.3: Data beyond the window", i.Data(data(5, 9, x)), api.ErrWindow)
		for n, p := range x.Event.Labels[:8] {
			if n >= len(was.Event.Labels) && p != (api.Pair{}) {
				t.Errorf("R6: Data writes %v behind the labels", p)
			}
		}
		wantShown(t, "R6: Data's argument", x, was)
		spoil(x)
		if got, ok := i.Receiver().Peek(); !ok || show(got) != show(was) {
			t.Errorf("R6: what was handed in is written over: %+v, want %+v", got, was)
		}
	}
}

// TestR6Ack: an acknowledgement's item is neither asked for nor written over.
func TestR6Ack(t *testing.T) {
	for _, x := range whole() {
		was := show(x.Event.Labels[:8])
		o := flying(t)
		f := ack(epochOf(2), 1, 0, inLife)
		f.Item, f.Seq = x, great
		acks(t, o, f, 10)
		f.Life++
		wantAck(t, "P12.2: a later life", o, f, api.ErrEpoch)
		wantAck(t, "P12.2: an earlier session", o, f, api.ErrOld)
		wantShown(t, "R6: Ack's argument", x.Event.Labels[:8], was)
	}
}

// TestR6Frames: the spool stays as it is, whatever is done with the frames; and no two of them share anything.
func TestR6Frames(t *testing.T) {
	o := newOut(t, times())
	s := waiting(t, 0, upTo(6)...)
	was := s.Base()
	fills(t, "P12.1: four", o, s, 5, 4)
	first := o.Frames(s, 5)
	second := o.Frames(s, 6)
	kept := show(second)
	for i := range first {
		spoil(first[i].Item)
		first[i] = frame.Frame{}
	}
	if len(second) != 4 || show(second) != kept {
		t.Errorf("R6: frames share memory: %+v", second)
	}
	wantShown(t, "R6: the spool", s.Base(), was)
	want := []frame.Frame{data(epochOf(1), 1, numbered(1)), data(epochOf(1), 2, numbered(2)), data(epochOf(1), 3, numbered(3)), data(epochOf(1), 4, numbered(4))}
	wantFrames(t, "R6: frames behind others that are written over", o.Frames(s, 8), want...)
	one := o.Frames(s, 16)
	spoil(one[0].Item)
	wantFrames(t, "R6: frames of one call share memory", one[1:], want[1:]...)
}

// TestR6Spool: neither end keeps the spool: one that is put in its place is the one that is looked at.
func TestR6Spool(t *testing.T) {
	o := newOut(t, times())
	s := waiting(t, 0, 1, 2)
	fills(t, "P12.1: two", o, s, 5, 2)
	wantError(t, "P8.3: Ack", s.Ack(2), api.OK)
	wantFrames(t, "P12.1: of another spool", o.Frames(waiting(t, 0, 1), 5), data(epochOf(1), 1, numbered(1)))
	fills(t, "P12.1: of another spool", o, waiting(t, 0, 1, 2, 3), 6, 1)
	wantIndexes(t, "P12.1: of another spool", o, 1, 2, 3)
}

// TestR7: nil ends do nothing.
func TestR7(t *testing.T) {
	var o *Out
	s := waiting(t, 0, upTo(9)...)
	was := s.Base()
	wantError(t, "R7: Restart of nil", o.Restart(), api.ErrNil)
	for _, now := range []uint64{0, 5, great} {
		for _, s := range []*spool.Spool{s, nil} {
			fills(t, "R7: nil", o, s, now, 0)
			wantFrames(t, "R7: Frames of nil", o.Frames(s, now))
		}
	}
	for _, from := range []uint64{0, 1, great} {
		if o.Changed(from) {
			t.Errorf("R7: Changed(%d) of nil reports a new session", from)
		}
	}
	var i *In
	for _, f := range []frame.Frame{{}, ack(epochOf(1), 0, 0, inLife), ack(0, 0, 0, 0), data(5, 1, numbered(1)), {Kind: frame.Alive, From: 9, To: 9}} {
		wantAck(t, "R7: nil", o, f, api.ErrNil)
		wantError(t, "R7: Data of nil", i.Data(f), api.ErrNil)
	}
	if o.Sender() != nil || o.Epoch() != 0 || i.Receiver() != nil || i.Epoch() != 0 {
		t.Error("R7: nil ends have something")
	}
	wantOut(t, "R7: nil", o, outState{})
	wantIn(t, "R7: nil", i, inState{})
	wantShown(t, "R6: the spool", s.Base(), was)
}

// TestNilSpool: of a nil spool nothing comes in flight, and nothing is sent.
func TestNilSpool(t *testing.T) {
	o := flying(t)
	list := o.Sender().List()
	fills(t, "P12.1: a nil spool", o, nil, 5, 0)
	wantFrames(t, "P12.1: a nil spool", o.Frames(nil, 4))
	wantShown(t, "P12.1: a nil spool", o.Sender().List(), list)
	wantFrames(t, "P12.1: a nil spool", o.Frames(nil, 5))
	wantFrames(t, "P12.1: behind a nil spool", o.Frames(waiting(t, 0, 10, 20), 6), data(epochOf(2), 1, numbered(1)), data(epochOf(2), 2, numbered(2)))
}

// TestZero: nothing comes in flight by the zero sending end, and nothing is held by the zero receiving end.
func TestZero(t *testing.T) {
	o := &Out{}
	wantError(t, "the zero end: Restart", o.Restart(), api.ErrWindow)
	fills(t, "the zero end", o, waiting(t, 0, 1), 5, 0)
	wantFrames(t, "the zero end: Frames", o.Frames(waiting(t, 0, 1), 5))
	if o.Changed(1) || o.Epoch() != 0 {
		t.Error("the zero end begins a session")
	}
	wantAck(t, "the zero end", o, frame.Frame{Kind: frame.Ack}, api.ErrNil)
	wantAck(t, "the zero end", o, frame.Frame{Kind: frame.Ack, Life: 1}, api.ErrNil)
	wantAck(t, "the zero end", o, frame.Frame{Kind: frame.Ack, Life: 2}, api.ErrWindow)
	i := &In{}
	for _, epoch := range []uint64{1, great} {
		wantError(t, "the zero end: Data", i.Data(frame.Frame{Kind: frame.Data, Epoch: epoch, Seq: 1, Item: numbered(1)}), api.ErrWindow)
		wantIn(t, "the zero end", i, inState{})
	}
	wantError(t, "the zero end: Data", i.Data(frame.Frame{Kind: frame.Data, Seq: 1, Item: numbered(1)}), api.ErrNil)
	wantIn(t, "the zero end", i, inState{})
}

// TestR8: the same calls have the same answers, whatever is asked of other ends between them.
func TestR8(t *testing.T) {
	for seed := range int64(20) {
		var all []*rand.Rand
		var outs []*Out
		var outModels []*outModel
		var ins []*In
		var inModels []*inModel
		var spools []*spool.Spool
		for _, seed := range []int64{seed, seed, seed + 1000} {
			m := &outModel{times: times(), life: outLife}
			m.restart()
			s, _ := spool.New(200)
			i := newIn(t, 4)
			all, outs, outModels, spools = append(all, rand.New(rand.NewSource(seed))), append(outs, newOut(t, times())), append(outModels, m), append(spools, s)
			ins, inModels = append(ins, i), append(inModels, &inModel{window: 4, receiver: newIn(t, 4).Receiver()})
		}
		for range 150 {
			for n, r := range all {
				stepOut(t, r, outs[n], outModels[n], spools[n])
				stepIn(t, r, ins[n], inModels[n])
			}
		}
		wantOut(t, "R8: the same calls", outs[0], outStateOf(outs[1]))
		wantIn(t, "R8: the same calls", ins[0], inStateOf(ins[1]))
	}
}
