package sess

import (
	"math/rand"
	"testing"

	"watchfire/api"
	"watchfire/frame"
	"watchfire/item"
	"watchfire/recv"
	"watchfire/send"
	"watchfire/spool"
)

// some returns one of the values.
func some[T any](r *rand.Rand, of ...T) T {
	return of[r.Intn(len(of))]
}

// spoil writes over an item's labels, and over their spare capacity.
func spoil(x api.Item) {
	l := x.Event.Labels[:cap(x.Event.Labels)]
	for i := range l {
		l[i] = api.Pair{Key: "SPOILED", Value: "SPOILED"}
	}
}

// outModel is a sending end: its life and session, every life of the other end that it saw, and a sender for each session.
type outModel struct {
	times         Times
	life, session uint64
	lives         []uint64
	sender        *send.Sender
}

func (m *outModel) restart() {
	m.session++
	m.sender, _ = send.New(m.times.Window, m.times.First, m.times.Most)
}

// greatest returns the greatest life that was seen, 0 if none was.
func (m *outModel) greatest() uint64 {
	var most uint64
	for _, life := range m.lives {
		most = max(most, life)
	}
	return most
}

func (m *outModel) state() outState {
	is := outState{epoch: m.life<<20 + m.session, seen: m.greatest(), room: m.sender.Room(), list: m.sender.List()}
	is.base, is.next, is.sent, is.again = m.sender.Counts()
	return is
}

// fill looks through all that waits, for what is to be put in flight.
func (m *outModel) fill(b spool.Base, now uint64) int {
	many := 0
	for _, entry := range b.List {
		if entry.Index <= b.Acked || entry.Index <= m.sender.Last() {
			continue
		}
		if _, e := m.sender.Offer(entry.Index, now); e != api.OK {
			return many
		}
		many++
	}
	return many
}

// frames looks for each item in flight through all that waits.
func (m *outModel) frames(b spool.Base, now uint64) []frame.Frame {
	var l []frame.Frame
	for _, f := range m.sender.List() {
		for _, entry := range b.List {
			if entry.Index == f.Index && !f.Came && f.Due <= now && now <= api.MaxNumber {
				l = append(l, data(m.life<<20+m.session, f.Seq, entry.Item))
			}
		}
	}
	m.sender.Due(now)
	return l
}

func (m *outModel) changed(from uint64) bool {
	for _, f := range m.sender.List() {
		if from > 0 && f.Index >= from {
			m.restart()
			return true
		}
	}
	return false
}

func (m *outModel) ack(f frame.Frame) (uint64, api.Errno) {
	was := m.greatest()
	switch {
	case f.Kind != frame.Ack:
		return 0, api.ErrKind
	case f.From != 1 || f.To != 2:
		return 0, api.ErrLink
	case f.Epoch != m.life<<20+m.session || f.Life < was:
		return 0, api.ErrOld
	}
	m.lives = append(m.lives, f.Life)
	if was != 0 && f.Life > was {
		m.restart()
		return 0, api.ErrEpoch
	}
	return m.sender.Ack(f.Cum, f.Bits)
}

// someFrame returns a frame from a node to another one, mostly, of numbers near those that are expected.
func someFrame(r *rand.Rand, from, to, kind uint8, epoch, life, seq uint64) frame.Frame {
	f := frame.Frame{Kind: kind, From: from, To: to, Epoch: epoch, Seq: seq + uint64(r.Intn(6)) - 1, Cum: seq + uint64(r.Intn(6)) - 1, Bits: r.Uint64() & r.Uint64(), Life: life}
	f.Item = someItem(r)
	if r.Intn(3) > 0 {
		return f
	}
	some(r,
		func() { f.Kind = uint8(r.Intn(5)) },
		func() { f.From = uint8(r.Intn(4)) },
		func() { f.To = uint8(r.Intn(4)) },
		func() { f.From, f.To = f.To, f.From },
		func() { f.Epoch += some[uint64](r, 1, 2, great, great-1, 1<<20) }, // great is one less
		func() { f.Epoch = 0 },
		func() { f.Life += some[uint64](r, 1, 1, 1, 2, great, great-1) },
		func() { f.Life = 0 },
		func() { f.Seq, f.Cum = great, great },
	)()
	return f
}

// someItem returns an item, of which item.Check refuses some.
func someItem(r *rand.Rand) api.Item {
	if r.Intn(4) == 0 {
		return item.Gap(2, uint64(r.Intn(9)), uint64(5+r.Intn(9)))
	}
	x := numbered(uint64(1 + r.Intn(1000)))
	x.Event.Labels = append(make([]api.Pair, 0, 5), x.Event.Labels...)
	if r.Intn(5) == 0 {
		some(r, func() { x.Event.Seq = 0 }, func() { x.Event.Rule = "" }, func() { x.Event.Labels = make([]api.Pair, 9) })()
	}
	return x
}

// changeSpool puts something into the spool, or acknowledges some of it. It returns from which index on that changed what waited.
func changeSpool(r *rand.Rand, s *spool.Spool) uint64 {
	_, _, next, acked, _ := s.Counts()
	if r.Intn(4) == 0 {
		s.Ack(acked + uint64(r.Intn(int(min(3, next-acked)))))
		return 0
	}
	x := numbered(s.High(2) + 1)
	x.Event.Prio = uint8(r.Intn(8))
	_, from, _ := s.Put(x)
	return from
}

// stepOut makes a call on both, and returns the error.
func stepOut(t *testing.T, r *rand.Rand, o *Out, m *outModel, s *spool.Spool) api.Errno {
	t.Helper()
	is, b := m.state(), s.Base()
	now := some(r, r.Uint64()%200, r.Uint64()%200, r.Uint64()%200, api.MaxNumber+1)
	switch r.Intn(9) {
	case 0:
		if got, want := o.Fill(s, now), m.fill(b, now); got != want {
			t.Fatalf("P12.1: Fill: %d, want %d, where there was %+v", got, want, is)
		}
	case 1:
		got, want := o.Frames(s, now), m.frames(b, now)
		if show(got) != show(want) {
			t.Fatalf("P12.1: Frames: %+v, want %+v, where there was %+v", got, want, is)
		}
		for _, f := range got {
			spoil(f.Item)
		}
	case 2:
		from := some(r, 0, m.sender.Last(), m.sender.Last()+1, m.sender.Last()-1, changeSpool(r, s))
		b = s.Base()
		if got, want := o.Changed(from), m.changed(from); got != want {
			t.Fatalf("P12.1: Changed(%d): %v, want %v, where there was %+v", from, got, want, is)
		}
	case 3:
		if r.Intn(9) == 0 {
			wantError(t, "P12.1: Restart", o.Restart(), api.OK)
			m.restart()
		}
	case 4, 5:
		changeSpool(r, s)
		b = s.Base()
	default:
		f := someFrame(r, 1, 2, frame.Ack, is.epoch, some(r, is.seen, max(is.seen, 1)), is.base)
		index, e := o.Ack(f)
		if wantIndex, wantE := m.ack(f); index != wantIndex || e != wantE {
			t.Fatalf("P12.2: Ack(%+v): %d, %d, want %d, %d, where there was %+v", f, index, e, wantIndex, wantE, is)
		}
		return e
	}
	wantShown(t, "R6: the spool", s.Base(), b)
	return api.OK
}

// TestAnyOut makes any calls on sending ends, and holds them against the model behind each.
func TestAnyOut(t *testing.T) {
	r := rand.New(rand.NewSource(1))
	errors := map[api.Errno]int{}
	for range 300 {
		ts := Times{Window: some(r, 1, 2, 3, 4, 64), First: 1, Most: 8}
		o, m := newOut(t, ts), &outModel{times: ts, life: outLife}
		m.restart()
		s, _ := spool.New(some(r, 100, 200, 1000))
		for range 150 {
			errors[stepOut(t, r, o, m, s)]++
			wantOut(t, "P12.1, P12.2: any calls", o, m.state())
			if t.Failed() {
				return
			}
		}
	}
	for _, e := range []api.Errno{api.OK, api.ErrKind, api.ErrLink, api.ErrOld, api.ErrEpoch, api.ErrRange} {
		if errors[e] < 300 {
			t.Errorf("any calls return %d only %d times", e, errors[e])
		}
	}
}

// inModel is a receiving end: every epoch that it saw, and a receiver for the greatest one.
type inModel struct {
	window   int
	epochs   []uint64
	receiver *recv.Receiver
}

// greatest returns the greatest epoch that was seen, 0 if none was.
func (m *inModel) greatest() uint64 {
	var most uint64
	for _, epoch := range m.epochs {
		most = max(most, epoch)
	}
	return most
}

func (m *inModel) data(f frame.Frame) api.Errno {
	was := m.greatest()
	switch {
	case f.Kind != frame.Data:
		return api.ErrKind
	case f.From != 2 || f.To != 1:
		return api.ErrLink
	case f.Epoch < was:
		return api.ErrOld
	}
	m.epochs = append(m.epochs, f.Epoch)
	if f.Epoch > was {
		m.receiver, _ = recv.New(m.window)
	}
	return m.receiver.Take(f.Seq, f.Item)
}

func (m *inModel) state() inState {
	is := inState{epoch: m.greatest(), answers: m.greatest() > 0}
	is.first, is.found = m.receiver.Peek()
	is.cum, is.bits = m.receiver.Ack()
	is.want, is.held, is.old = m.receiver.Counts()
	if is.answers {
		is.answer = ack(is.epoch, is.cum, is.bits, inLife)
	}
	return is
}

// stepIn makes a call on both, writes over what was handed in, and returns the error.
func stepIn(t *testing.T, r *rand.Rand, i *In, m *inModel) api.Errno {
	t.Helper()
	is := m.state()
	if r.Intn(4) == 0 {
		e, wantE := i.Receiver().Next(), m.receiver.Next()
		wantError(t, "P12.3: Receiver: Next", e, wantE)
		return e
	}
	f := someFrame(r, 2, 1, frame.Data, is.epoch, 0, is.want)
	was := show(f)
	wantE := m.data(f)
	e := i.Data(f)
	if e != wantE {
		t.Fatalf("P12.3: Data(%+v): %d, want %d, where there was %+v", f, e, wantE, is)
	}
	if show(f) != was {
		t.Fatalf("R6: Data changes %s into %s", was, show(f))
	}
	spoil(f.Item)
	return e
}

// TestAnyIn makes any calls on receiving ends, and holds them against the model behind each.
func TestAnyIn(t *testing.T) {
	r := rand.New(rand.NewSource(2))
	errors := map[api.Errno]int{}
	for range 300 {
		window := some(r, 1, 2, 3, 4, 64)
		i, m := newIn(t, window), &inModel{window: window}
		m.receiver, _ = recv.New(window)
		for range 200 {
			errors[stepIn(t, r, i, m)]++
			wantIn(t, "P12.3: any calls", i, m.state())
			if t.Failed() {
				return
			}
		}
	}
	for _, e := range []api.Errno{api.OK, api.ErrKind, api.ErrLink, api.ErrOld, api.ErrWindow, api.ErrRange, api.ErrName, api.ErrMany, api.ErrNone} {
		if errors[e] < 300 {
			t.Errorf("any calls return %d only %d times", e, errors[e])
		}
	}
}
