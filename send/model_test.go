package send

import (
	"math/rand"
	"slices"
	"testing"

	"watchfire/api"
)

// sending is an item that was offered: its index, when, at which times it was sent, and whether it is acknowledged.
type sending struct {
	index, offered uint64
	times          []uint64
	came           bool
}

// model is a plain list of all that was ever offered, of which so many are gone; the numbers begin behind start.
type model struct {
	window      int
	first, most uint64
	start       uint64
	all         []sending
	gone        int
}

// flight works out what an item in flight is from when it was sent.
func (m model) flight(at int) Flight {
	x := m.all[at]
	f := Flight{Seq: m.start + uint64(at) + 1, Index: x.index, Due: x.offered, Wait: m.first, Sent: len(x.times) > 0, Came: x.came}
	for _, time := range x.times {
		f.Due = time + f.Wait
		f.Wait *= 2
		if f.Wait > m.most {
			f.Wait = m.most
		}
	}
	return f
}

// list returns what is in flight.
func (m model) list() []Flight {
	var l []Flight
	for at := m.gone; at < len(m.all); at++ {
		l = append(l, m.flight(at))
	}
	return l
}

// next returns the next number.
func (m model) next() uint64 {
	return m.start + uint64(len(m.all)) + 1
}

// state works out all that a sender should tell.
func (m model) state() state {
	is := state{list: m.list(), base: m.start + uint64(m.gone), next: m.next()}
	is.room = m.window - len(is.list)
	for _, f := range is.list {
		is.last = f.Index
	}
	for _, x := range m.all {
		is.sent += uint64(len(x.times))
		if len(x.times) > 1 {
			is.again += uint64(len(x.times) - 1)
		}
	}
	var dues []uint64
	for _, f := range is.list {
		if !f.Came {
			dues = append(dues, f.Due)
		}
	}
	if len(dues) > 0 {
		is.wake, is.wakes = slices.Min(dues), true
	}
	return is
}

func (m *model) offer(index, now uint64) (uint64, api.Errno) {
	waiting := m.all[m.gone:]
	if len(waiting) == m.window {
		return 0, api.ErrWindow
	}
	if len(waiting) > 0 && waiting[len(waiting)-1].index >= index {
		return 0, api.ErrOrder
	}
	if m.next() > 1<<40 || index > 1<<40 || now > 1<<40 {
		return 0, api.ErrRange
	}
	m.all = append(m.all, sending{index: index, offered: now})
	return m.next() - 1, api.OK
}

func (m *model) due(now uint64) []Flight {
	var l []Flight
	for at := m.gone; at < len(m.all); at++ {
		if f := m.flight(at); !f.Came && f.Due <= now && now <= 1<<40 {
			l = append(l, f)
			m.all[at].times = append(m.all[at].times, now)
		}
	}
	return l
}

func (m *model) ack(cum, bits uint64) (uint64, api.Errno) {
	if cum >= m.next() {
		return 0, api.ErrRange
	}
	var index uint64
	for m.start+uint64(m.gone) < cum {
		index = m.all[m.gone].index
		m.gone++
	}
	for i := range uint64(64) {
		if at := cum + 1 + i - m.start; bits&(1<<i) != 0 && cum+1+i >= m.start && at < uint64(len(m.all)) {
			m.all[at].came = true
		}
	}
	if m.gone < len(m.all) {
		m.all[m.gone].came = false
	}
	return index, api.OK
}

// some returns one of the values.
func some[T any](r *rand.Rand, of ...T) T {
	return of[r.Intn(len(of))]
}

// someBits returns none, one, few, many or all bits.
func someBits(r *rand.Rand) uint64 {
	return some(r, 0, 1<<r.Intn(64), r.Uint64(), r.Uint64()&r.Uint64()&r.Uint64(), uint64(r.Intn(16)), great)
}

// someCum returns a number that was acknowledged, that is in flight, or that was not given.
func someCum(r *rand.Rand, is state) uint64 {
	near := is.base + uint64(r.Intn(4))
	return some(r, near, near, is.base, is.base-min(is.base, uint64(r.Intn(70))), is.next-1, is.next, is.base+uint64(r.Int63n(int64(is.next-is.base))), 0, great)
}

// step makes a call on both, and holds what is answered against the model.
func step(t *testing.T, r *rand.Rand, s *Sender, m *model, now uint64) api.Errno {
	t.Helper()
	is := m.state()
	switch r.Intn(6) {
	case 0, 1, 2:
		index := some(r, is.last+1, is.last+1+uint64(r.Intn(9)), is.last, is.last-min(is.last, 1), 0, uint64(r.Intn(9)))
		if r.Intn(30) == 0 {
			index, now = some(r, index, api.MaxNumber+1, great), some(r, now, api.MaxNumber+1, great)
		}
		seq, e := s.Offer(index, now)
		wantSeq, wantE := m.offer(index, now)
		if seq != wantSeq || e != wantE {
			t.Fatalf("P10.1: Offer(%d, %d): %d, %d, want %d, %d, where there was %+v", index, now, seq, e, wantSeq, wantE, is)
		}
		return e
	case 3, 4:
		now = some(r, now, now, now, is.wake, is.wake-min(is.wake, 1), api.MaxNumber+1)
		got, want := s.Due(now), m.due(now)
		if !slices.Equal(got, want) {
			t.Fatalf("P10.2: Due(%d): %+v, want %+v, where there was %+v", now, got, want, is)
		}
		return api.OK
	}
	cum, bits := someCum(r, is), someBits(r)
	index, e := s.Ack(cum, bits)
	wantIndex, wantE := m.ack(cum, bits)
	if index != wantIndex || e != wantE {
		t.Fatalf("P10.2: Ack(%d, %b): %d, %d, want %d, %d, where there was %+v", cum, bits, index, e, wantIndex, wantE, is)
	}
	return e
}

// someModel returns one of any window and any times, from the first number on, or not far from the last one.
func someModel(r *rand.Rand) *model {
	m := &model{window: some(r, 1, 2, 3, 5, 8, 64, 1+r.Intn(64)), first: some(r, uint64(1), 2, 3, 1+uint64(r.Intn(20)))}
	m.most = m.first + some(r, uint64(0), 1, 5, 100)
	if r.Intn(5) == 0 {
		m.start = api.MaxNumber - uint64(r.Intn(40))
	}
	return m
}

// TestAnyCalls makes any calls, and holds a sender against the model behind each.
func TestAnyCalls(t *testing.T) {
	r := rand.New(rand.NewSource(1))
	errors := map[api.Errno]int{}
	for range 600 {
		m := someModel(r)
		s := made(t, m.window, m.first, m.most)
		s.base = m.start
		now := some(r, uint64(0), 100, api.MaxNumber-50)
		for range 150 {
			errors[step(t, r, s, m, now)]++
			wantState(t, "P10.3: any calls", s, m.state())
			if len(s.List()) > m.window {
				t.Errorf("P7: %d items are in flight in a window of %d", len(s.List()), m.window)
			}
			if t.Failed() {
				return
			}
			now += uint64(r.Intn(5)) * uint64(r.Intn(3))
		}
	}
	for _, e := range []api.Errno{api.OK, api.ErrRange, api.ErrOrder, api.ErrWindow} {
		if errors[e] < 1000 {
			t.Errorf("any calls return %d only %d times", e, errors[e])
		}
	}
}

// TestNumbers makes any calls: the numbers are given one by one, none twice, and what was acknowledged up to a number is not sent any more.
func TestNumbers(t *testing.T) {
	r := rand.New(rand.NewSource(2))
	for range 100 {
		s := made(t, 1+r.Intn(64), 1, 3)
		var given, acked uint64
		for now := range uint64(300) {
			if seq, e := s.Offer(s.Last()+1, now); e == api.OK {
				if seq != given+1 {
					t.Fatalf("P10.1: the number %d is given behind %d", seq, given)
				}
				given = seq
			}
			if cum := acked + uint64(r.Intn(3)); cum <= given && r.Intn(3) == 0 {
				s.Ack(cum, someBits(r))
				acked = cum
			}
			for _, f := range s.Due(now) {
				if f.Seq <= acked || f.Seq > given {
					t.Fatalf("P10.2: number %d is sent, of %d, of which %d are acknowledged", f.Seq, given, acked)
				}
			}
		}
	}
}
