package sess

import (
	"testing"

	"watchfire/api"
	"watchfire/frame"
	"watchfire/item"
)

// holding returns a receiving end of epoch 5 that took number 1 over, and holds numbers 3 and 4 of its window of 4.
func holding(t *testing.T) *In {
	t.Helper()
	i := newIn(t, 4)
	for _, seq := range []uint64{1, 3, 4} {
		wantError(t, "P12.3: Data", i.Data(data(5, seq, numbered(seq))), api.OK)
	}
	wantError(t, "P11.1: Next", i.Receiver().Next(), api.OK)
	return i
}

// held is what holding's end tells.
func held() inState {
	return inState{epoch: 5, cum: 1, bits: 3, want: 2, held: 2, answer: ack(5, 1, 3, inLife), answers: true}
}

// begun is what an end tells that expects number 1 of an epoch, and holds nothing.
func begun(epoch uint64) inState {
	return inState{epoch: epoch, want: 1, answer: ack(epoch, 0, 0, inLife), answers: true}
}

func TestHolding(t *testing.T) {
	wantIn(t, "P12.3: Data", holding(t), held())
}

// TestDataKind: a frame of each other kind is refused, whatever else is wrong with it (R2).
func TestDataKind(t *testing.T) {
	i := holding(t)
	for kind := range 256 {
		if kind == frame.Data {
			continue
		}
		for _, f := range []frame.Frame{
			data(5, 2, numbered(2)),
			data(6, 1, numbered(1)),
			data(4, 1, api.Item{}),
			{From: 9, To: 9, Epoch: 6},
			{},
		} {
			f.Kind = uint8(kind)
			wantError(t, "P12.3: another kind", i.Data(f), api.ErrKind)
			wantIn(t, "R4: another kind", i, held())
		}
	}
}

// TestDataLink: a frame that isn't from the other end to this one is refused, whatever else is wrong with it.
func TestDataLink(t *testing.T) {
	i := holding(t)
	for from := range 256 {
		for to := range 256 {
			if from == 2 && to == 1 {
				continue
			}
			for _, f := range []frame.Frame{data(5, 2, numbered(2)), data(6, 1, numbered(1)), data(4, 0, api.Item{})} {
				f.From, f.To = uint8(from), uint8(to)
				wantError(t, "P12.3: another link", i.Data(f), api.ErrLink)
			}
		}
	}
	wantIn(t, "R4: another link", i, held())
}

// TestDataNodes: whichever nodes the ends are, data goes from the other end to this one, and the answer goes the way back.
func TestDataNodes(t *testing.T) {
	for self := range uint8(32) {
		for peer := range uint8(32) {
			i, e := NewIn(self, peer, 1, 4)
			if e != api.OK {
				continue
			}
			f := data(5, 1, numbered(1))
			f.From, f.To = self, peer
			wantError(t, "P12.3: the way back", i.Data(f), api.ErrLink)
			f.From, f.To = peer, self
			wantError(t, "P12.3: the way there", i.Data(f), api.OK)
			want := ack(5, 0, 0, 1)
			want.From, want.To = self, peer
			if got, ok := i.Answer(); !ok || show(got) != show(want) {
				t.Errorf("P12.3: Answer: %+v, %v, want %+v", got, ok, want)
			}
		}
	}
}

// TestDataOld: of an earlier epoch it is old, whatever else is wrong with it; and it isn't counted by the receiver.
func TestDataOld(t *testing.T) {
	i := holding(t)
	for _, epoch := range []uint64{0, 1, 3, 4} {
		for _, seq := range []uint64{0, 1, 2, 3, 5, 6, great} {
			for _, x := range []api.Item{numbered(2), {}} {
				wantError(t, "P12.3: an earlier epoch", i.Data(data(epoch, seq, x)), api.ErrOld)
			}
		}
	}
	wantIn(t, "R4: an earlier epoch", i, held())
}

// taking is a number and an item, and what a receiver of a window of 4 says of them that holds nothing.
type taking struct {
	seq uint64
	x   api.Item
	e   api.Errno
}

func takings() []taking {
	labels := func(l ...api.Pair) api.Item {
		x := numbered(1)
		x.Event.Labels = l
		return x
	}
	own := numbered(1)
	own.Event.Own = 1
	state := numbered(1)
	state.Event.State = api.Unknown
	rule := numbered(1)
	rule.Event.Rule = ""
	a, b := api.Pair{Key: "a", Value: "x"}, api.Pair{Key: "b", Value: "x"}
	return []taking{
		{1, numbered(9), api.OK},
		{2, item.Gap(2, 3, 9), api.OK},
		{4, numbered(1), api.OK},
		{0, numbered(1), api.ErrOld},
		{0, api.Item{}, api.ErrOld},
		{5, numbered(1), api.ErrWindow},
		{great, api.Item{}, api.ErrWindow},
		{1, api.Item{}, api.ErrRange},
		{4, item.Gap(2, 3, 2), api.ErrRange},
		{2, rule, api.ErrName},
		{3, state, api.ErrKind},
		{3, own, api.ErrWord},
		{1, labels(make([]api.Pair, 9)...), api.ErrMany},
		{1, labels(a, a), api.ErrTwice},
		{1, labels(b, a), api.ErrOrder},
	}
}

// after works out what an end tells that began an epoch with this.
func (c taking) after(epoch uint64) inState {
	is := begun(epoch)
	if c.e == api.ErrOld {
		is.old = 1
	}
	if c.e != api.OK {
		return is
	}
	is.held = 1
	if c.seq == 1 {
		is.first, is.found = c.x, true
		return is
	}
	is.bits = 1 << (c.seq - 2)
	is.answer.Bits = is.bits
	return is
}

// TestDataLater: a later epoch begins a receiver, beside each error of Take, too; what the one ahead of it held is dropped.
func TestDataLater(t *testing.T) {
	for _, c := range takings() {
		for _, epoch := range []uint64{6, 7, 1048577, api.MaxNumber, great} {
			i := holding(t)
			was := i.Receiver()
			wantError(t, "P12.3: a later epoch", i.Data(data(epoch, c.seq, c.x)), c.e)
			wantIn(t, "P12.3: a later epoch", i, c.after(epoch))
			if want, many, old := was.Counts(); i.Receiver() == was || want != 2 || many != 2 || old != 0 {
				t.Errorf("P12.3: the receiver ahead of it: %d, %d, %d", want, many, old)
			}
			wantError(t, "P12.3: the epoch ahead of it", i.Data(data(5, 2, numbered(2))), api.ErrOld)
			wantIn(t, "P12.3: the epoch ahead of it", i, c.after(epoch))
		}
	}
}

// TestDataFirst: the first epoch that is seen begins a receiver, whichever it is.
func TestDataFirst(t *testing.T) {
	for _, c := range takings() {
		for _, epoch := range []uint64{1, 2, 1048577, great} {
			i := newIn(t, 4)
			wantError(t, "P12.3: the first epoch", i.Data(data(epoch, c.seq, c.x)), c.e)
			wantIn(t, "P12.3: the first epoch", i, c.after(epoch))
		}
	}
}

// TestDataSame: of the last epoch, the answer is the receiver's, which goes on.
func TestDataSame(t *testing.T) {
	for _, c := range takings() {
		i := holding(t)
		was := i.Receiver()
		seq, e := c.seq+1, c.e // as number 1 was taken over
		switch {
		case c.seq == 0 || c.seq == 2:
			e = api.ErrOld // number 1 was taken over, and 3 is held
		case c.seq == great:
			seq = great
		case c.seq == 3:
			e = api.ErrOld // number 4 is held
		}
		want := held()
		if e == api.ErrOld {
			want.old++
		}
		if e == api.OK {
			want.held++
		}
		if e == api.OK && seq == 2 {
			want.first, want.found = c.x, true
		}
		if e == api.OK && seq == 5 {
			want.bits, want.answer.Bits = 7, 7
		}
		wantError(t, "P12.3: the last epoch", i.Data(data(5, seq, c.x)), e)
		wantIn(t, "P12.3: the last epoch", i, want)
		if i.Receiver() != was {
			t.Error("P12.3: the last epoch begins a receiver")
		}
	}
}

// TestDataWindow: each epoch's receiver has the window that was given.
func TestDataWindow(t *testing.T) {
	for _, window := range []int{1, 2, 63, 64} {
		i := newIn(t, window)
		for epoch := uint64(1); epoch < 5; epoch++ {
			wantError(t, "P12.3: beyond the window", i.Data(data(epoch, uint64(window)+1, numbered(1))), api.ErrWindow)
			for seq := uint64(window); seq > 0; seq-- {
				wantError(t, "P12.3: within the window", i.Data(data(epoch, seq, numbered(1))), api.OK)
				wantError(t, "P12.3: within the window, again", i.Data(data(epoch, seq, numbered(1))), api.ErrOld)
			}
			if _, many, old := i.Receiver().Counts(); many != window || old != uint64(window) {
				t.Errorf("P7: a window of %d holds %d, and refused %d", window, many, old)
			}
		}
	}
}

// TestAnswer: there is an answer from the first epoch on, and not ahead of it, whatever else came.
func TestAnswer(t *testing.T) {
	i := newIn(t, 4)
	other := data(5, 1, numbered(1))
	other.From = 3
	for _, f := range []frame.Frame{ack(5, 0, 0, 1), {Kind: frame.Alive, From: 2, To: 1}, other, {}} {
		i.Data(f)
		if f, ok := i.Answer(); ok || show(f) != show(frame.Frame{}) {
			t.Errorf("P12.3: Answer ahead of an epoch: %+v, %v", f, ok)
		}
	}
	wantShown(t, "P12.3: ahead of an epoch", inStateOf(i), inState{want: 1})
	for _, c := range []struct {
		f    frame.Frame
		want frame.Frame
	}{
		{data(5, 9, numbered(9)), ack(5, 0, 0, inLife)},
		{data(5, 2, numbered(2)), ack(5, 0, 1, inLife)},
		{data(5, 4, numbered(4)), ack(5, 0, 5, inLife)},
		{data(5, 1, numbered(1)), ack(5, 2, 1, inLife)},
		{data(4, 3, numbered(3)), ack(5, 2, 1, inLife)},
		{data(5, 3, numbered(3)), ack(5, 4, 0, inLife)},
		{data(8, 3, numbered(3)), ack(8, 0, 2, inLife)},
		{data(5, 5, numbered(5)), ack(8, 0, 2, inLife)},
		{data(8, 1, numbered(1)), ack(8, 1, 1, inLife)},
	} {
		i.Data(c.f)
		for i.Receiver().Next() == api.OK {
		}
		for range 2 {
			got, ok := i.Answer()
			if !ok || show(got) != show(c.want) {
				t.Errorf("P12.3: Answer behind %+v: %+v, %v, want %+v", c.f, got, ok, c.want)
			}
			wantError(t, "P12.3: frame.Check of an Answer", frame.Check(got), api.OK)
		}
	}
}

// TestDataEpoch0: no epoch is numbered 0, so that a frame of it comes to the receiver, but is not answered.
func TestDataEpoch0(t *testing.T) {
	i := newIn(t, 4)
	wantError(t, "P12.3: epoch 0", i.Data(data(0, 1, numbered(1))), api.OK)
	wantError(t, "P12.3: epoch 0, again", i.Data(data(0, 1, numbered(1))), api.ErrOld)
	wantIn(t, "P12.3: epoch 0", i, inState{first: numbered(1), found: true, want: 1, held: 1, old: 1})
	wantError(t, "P12.3: epoch 1", i.Data(data(1, 2, numbered(2))), api.OK)
	wantError(t, "P12.3: epoch 0 behind epoch 1", i.Data(data(0, 3, numbered(3))), api.ErrOld)
	want := begun(1)
	want.bits, want.answer.Bits, want.held = 1, 1, 1
	wantIn(t, "P12.3: epoch 1 behind epoch 0", i, want)
}
