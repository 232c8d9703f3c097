package spool

import (
	"math/rand"
	"slices"
	"testing"

	"watchfire/api"
	"watchfire/item"
)

// atom is an item as it was appended: it stays one, also if it is evicted or joined.
type atom struct {
	index   uint64
	x       api.Item
	evicted bool
}

// model is a plain list of what waits, and what a spool tells beside it (without the list of entries, which follows from the atoms).
type model struct {
	quota int
	base  Base
	atoms []atom
}

// view returns the entries that there should be: each run of gaps of an origin is one, in the place of the first. Beside it stands the index of each atom's entry.
func (m model) view() ([]Entry, []uint64) {
	var l []Entry
	var owners []uint64
	last := map[uint8]int{} // 1 more than the place of an origin's last entry
	for _, a := range m.atoms {
		origin, from, to := item.Span(a.x)
		x := a.x
		if a.evicted {
			x = item.Gap(origin, from, to)
		}
		if at := last[origin] - 1; at >= 0 && x.IsGap && l[at].Item.IsGap {
			l[at].Item.Gap.To = to
			owners = append(owners, l[at].Index)
			continue
		}
		l = append(l, Entry{a.index, x})
		last[origin] = len(l)
		owners = append(owners, a.index)
	}
	return l, owners
}

// whole returns the contents with their entries.
func (m model) whole() Base {
	b := m.base
	b.List, _ = m.view()
	return b
}

// fits reports whether there is room for so many bytes.
func (m model) fits(size int) bool {
	l, _ := m.view()
	for _, entry := range l {
		size += item.Size(entry.Item)
	}
	return size <= m.quota
}

// evict evicts by age the first of the lowest priority, and reports whether there was one.
func (m *model) evict() bool {
	for prio := range uint8(api.MaxPrio + 1) {
		for i, a := range m.atoms {
			if !a.evicted && !a.x.IsGap && a.x.Event.Own == 0 && a.x.Event.Prio == prio {
				m.atoms[i].evicted = true
				m.base.Evicted++
				return true
			}
		}
	}
	return false
}

// changed returns the lowest index whose item is another one than it was, 0 if there is none.
func changed(was, is []Entry) uint64 {
	for _, entry := range is {
		if slices.ContainsFunc(was, func(old Entry) bool { return old.Index == entry.Index && !item.Same(old.Item, entry.Item) }) {
			return entry.Index
		}
	}
	return 0
}

func (m *model) put(x api.Item) (index, from uint64, e api.Errno) {
	if e := item.Check(x); e != api.OK {
		return 0, 0, e
	}
	origin, first, to := item.Span(x)
	high := m.base.Highs[origin]
	if to <= high {
		return 0, 0, api.ErrOld
	}
	if first > high+1 {
		return 0, 0, api.ErrJump
	}
	if first <= high {
		x = item.Gap(origin, high+1, to)
	}
	was, _ := m.view()
	trial := *m
	trial.atoms = slices.Clone(m.atoms)
	for !trial.fits(item.Size(x)) {
		if !trial.evict() {
			return 0, 0, api.ErrFull
		}
	}
	if m.base.Next == api.MaxNumber {
		return 0, 0, api.ErrRange
	}
	index = trial.base.Next
	trial.atoms = append(trial.atoms, atom{index, x, false})
	trial.base.Next++
	trial.base.Highs[origin] = to
	is, _ := trial.view()
	*m = trial
	return index, changed(was, is), api.OK
}

func (m *model) ack(index uint64) api.Errno {
	if index >= m.base.Next {
		return api.ErrRange
	}
	if index <= m.base.Acked {
		return api.ErrOld
	}
	_, owners := m.view()
	var left []atom
	for i, a := range m.atoms {
		if owners[i] > index {
			left = append(left, a)
		}
	}
	m.atoms, m.base.Acked = left, index
	return api.OK
}

// some returns one of the values.
func some[T any](r *rand.Rand, of ...T) T {
	return of[r.Intn(len(of))]
}

// someNext returns an item that begins at a count: mostly an event.
func someNext(r *rand.Rand, origin uint8, count uint64) api.Item {
	switch r.Intn(8) {
	case 0:
		return item.Gap(origin, count, count+uint64(r.Intn(4)*r.Intn(100)))
	case 1:
		return own(origin, count, 16+r.Intn(20))
	}
	size := 13 + r.Intn(10)
	if r.Intn(8) == 0 {
		size = 13 + r.Intn(100)
	}
	return sized(origin, count, uint8(r.Intn(api.MaxPrio+1)), size)
}

// someItem returns an item that a spool may take, or refuse for any error: of few origins, so that they meet.
func someItem(r *rand.Rand, m *model) api.Item {
	origin := uint8(some(r, 0, 1, 1, 1, 2, 31))
	high := m.base.Highs[origin]
	switch r.Intn(24) {
	case 0:
		return item.Gap(origin, 1, high+uint64(r.Intn(3)))
	case 1:
		return item.Gap(origin, max(high, 1), high+uint64(r.Intn(30)))
	case 2:
		return someNext(r, origin, high+2)
	case 3:
		return someNext(r, origin, max(high, 1))
	case 4:
		return someNext(r, origin+32, high+1)
	case 5:
		x := someNext(r, origin, high+1)
		x.Event.Rule = some(r, "own.", "A", "xxxxxxxxxxxxx", "")
		return x
	}
	return someNext(r, origin, high+1)
}

// someIndex returns one that is old, one that waits, or one that was not assigned.
func someIndex(r *rand.Rand, b Base) uint64 {
	return some(r, 0, great, b.Next-1, b.Next, b.Next+1, b.Acked, b.Acked+1, b.Acked+1+uint64(r.Int63n(int64(b.Next-b.Acked))))
}

// step makes a call on both, and holds what is answered against the model.
func step(t *testing.T, r *rand.Rand, s *Spool, m *model) {
	t.Helper()
	if r.Intn(6) == 0 {
		index := someIndex(r, m.base)
		if got, want := s.Ack(index), m.ack(index); got != want {
			t.Fatalf("P8.3: Ack(%d): %d, want %d", index, got, want)
		}
		return
	}
	x := someItem(r, m)
	was := m.whole()
	index, from, e := s.Put(x)
	wantIndex, wantFrom, wantE := m.put(x)
	if index != wantIndex || from != wantFrom || e != wantE {
		t.Fatalf("P8.2: Put(%+v): %d, %d, %d, want %d, %d, %d, where there was %s", x, index, from, e, wantIndex, wantFrom, wantE, showBase(was))
	}
}

// look asks for what waits up to some index and behind it, and holds it against the model.
func look(t *testing.T, r *rand.Rand, s *Spool, b Base) {
	t.Helper()
	index, many := someIndex(r, b), r.Intn(6)-1
	var found Entry
	var rest []Entry
	for _, entry := range b.List {
		if entry.Index <= index {
			found = entry
		} else if len(rest) < many {
			rest = append(rest, entry)
		}
	}
	if got := s.List(index, many); !sameEntries(got, rest) {
		t.Errorf("P8.3: List(%d, %d): %s, want %s", index, many, show(got), show(rest))
	}
	got, ok := s.Find(index)
	if !sameEntries([]Entry{got}, []Entry{found}) || ok != (found.Index != 0) {
		t.Errorf("P8.3: Find(%d): %s, %v, want %s", index, show([]Entry{got}), ok, show([]Entry{found}))
	}
}

// TestAnyCalls makes any calls, from the first index on and up to the last one, and holds a spool against the model; sometimes it goes on with a copy, or with a spool of its Base.
func TestAnyCalls(t *testing.T) {
	r := rand.New(rand.NewSource(1))
	errors := map[api.Errno]int{}
	for range 400 {
		m := &model{quota: 64 + r.Intn(300), base: Base{Next: 1}}
		if r.Intn(4) == 0 {
			m.base.Next = api.MaxNumber - uint64(r.Intn(40))
			m.base.Acked = m.base.Next - 1
		}
		s := of(t, m.quota, m.base)
		for range 120 {
			step(t, r, s, m)
			b := m.whole()
			wantBase(t, "P8.2: any calls", s, m.quota, b)
			look(t, r, s, b)
			if t.Failed() {
				return
			}
			switch r.Intn(20) {
			case 0:
				s = s.Copy()
			case 1:
				s = of(t, m.quota, s.Base())
			}
			_, _, e := s.Copy().Put(someItem(r, m))
			errors[e]++
		}
	}
	for _, e := range []api.Errno{api.OK, api.ErrRange, api.ErrOld, api.ErrJump, api.ErrFull, api.ErrName, api.ErrWord} {
		if errors[e] < 20 {
			t.Errorf("any calls of Put return %d only %d times", e, errors[e])
		}
	}
}

// history is what was put of each origin, by its counts; the zero Item stands for those of gaps.
type history map[uint8][]api.Item

func (h history) add(x api.Item) {
	origin, _, to := item.Span(x)
	for uint64(len(h[origin])) < to {
		if x.IsGap {
			x = api.Item{}
		}
		h[origin] = append(h[origin], x)
	}
}

// TestP4 puts any items: each event that waits is the one that was put under its count, gaps cover only what was put as gaps and events that were evicted, and nodes' own events all wait.
func TestP4(t *testing.T) {
	r := rand.New(rand.NewSource(2))
	for range 100 {
		m := &model{base: Base{Next: 1}}
		s := made(t, 64+r.Intn(1000))
		h := history{}
		for range 200 {
			m.base = s.Base()
			if x := someItem(r, m); r.Intn(12) > 0 {
				if _, _, e := s.Put(x); e == api.OK {
					h.add(x)
				}
			} else if waits, _, _, _, _ := s.Counts(); waits > 2 {
				s.Ack(s.Base().List[r.Intn(2)].Index)
			}
			h.check(t, s)
		}
	}
}

func (h history) check(t *testing.T, s *Spool) {
	t.Helper()
	wantOrder(t, "any puts", s)
	var evicted uint64
	for _, entry := range s.Base().List {
		origin, from, to := item.Span(entry.Item)
		for count := from; count <= to; count++ {
			was := h[origin][count-1]
			if !entry.Item.IsGap && !item.Same(was, entry.Item) {
				t.Fatalf("P4: %+v waits for %+v", entry.Item, was)
			}
			if entry.Item.IsGap && !item.Same(was, api.Item{}) {
				evicted++
				if item.Lasts(was) {
					t.Fatalf("P7: %+v is evicted", was)
				}
			}
		}
	}
	if _, _, _, acked, told := s.Counts(); evicted > told || acked == 0 && evicted != told {
		t.Fatalf("P8.1: %d events are evicted, %d are told", evicted, told)
	}
}
