package spool

import (
	"testing"

	"watchfire/api"
	"watchfire/item"
)

// evictCase is what waits (behind full's first item, so that these have the indexes from 2 on) and how many bytes are left, what is put, and what waits then.
type evictCase struct {
	about   string
	left    int
	waits   []api.Item
	x       api.Item
	from    uint64
	evicted uint64
	want    []Entry
}

// check puts, and holds everything against what is wanted; x itself is what is wanted last, unless it is joined.
func (c evictCase) check(t *testing.T) {
	t.Helper()
	s := full(t, c.left, c.waits...)
	want := s.Base()
	index, from, e := s.Put(c.x)
	if index != want.Next || from != c.from || e != api.OK {
		t.Errorf("P8.2: %s: %d, %d, %d, want %d, %d", c.about, index, from, e, want.Next, c.from)
	}
	origin, _, to := item.Span(c.x)
	want.Next++
	want.Evicted += c.evicted
	want.Highs[origin] = to
	want.List = append(want.List[:1], c.want...)
	wantBase(t, "P8.2: "+c.about, s, s.Quota(), want)
}

type items = []api.Item

// TestEvictOne evicts one event, with the gap ahead of it, the one behind it, both and none.
func TestEvictOne(t *testing.T) {
	for _, c := range []evictCase{
		{"joined with none", 4, items{event(1, 1, 1), event(1, 2, 0), event(1, 3, 1)}, event(1, 4, 1), 3, 1,
			[]Entry{{2, event(1, 1, 1)}, {3, gap(1, 2, 2)}, {4, event(1, 3, 1)}, {5, event(1, 4, 1)}}},
		{"the only one", 4, items{event(1, 1, 7)}, event(2, 1, 0), 2, 1,
			[]Entry{{2, gap(1, 1, 1)}, {3, event(2, 1, 0)}}},
		{"joined with the gap ahead", 0, items{gap(1, 1, 6), event(1, 7, 0), event(1, 8, 1)}, event(1, 9, 1), 2, 1,
			[]Entry{{2, gap(1, 1, 7)}, {4, event(1, 8, 1)}, {5, event(1, 9, 1)}}},
		{"joined with the gap behind", 0, items{event(1, 1, 1), event(1, 2, 0), gap(1, 3, 9), event(1, 10, 1)}, event(1, 11, 1), 3, 1,
			[]Entry{{2, event(1, 1, 1)}, {3, gap(1, 2, 9)}, {5, event(1, 10, 1)}, {6, event(1, 11, 1)}}},
		{"joined with both gaps", 0, items{gap(1, 1, 1), event(1, 2, 0), gap(1, 3, 3), event(1, 4, 1)}, event(1, 5, 1), 2, 1,
			[]Entry{{2, gap(1, 1, 3)}, {5, event(1, 4, 1)}, {6, event(1, 5, 1)}}},
		{"joined with both, others between", 0, items{gap(1, 1, 1), event(2, 1, 1), gap(3, 1, 9), event(1, 2, 0), own(4, 1, 15), gap(2, 2, 2), gap(1, 3, 3), event(2, 3, 1)}, event(2, 4, 1), 2, 1,
			[]Entry{{2, gap(1, 1, 3)}, {3, event(2, 1, 1)}, {4, gap(3, 1, 9)}, {6, own(4, 1, 15)}, {7, gap(2, 2, 2)}, {9, event(2, 3, 1)}, {10, event(2, 4, 1)}}},
		{"other origins' gaps around it", 4, items{event(1, 1, 1), gap(2, 1, 1), event(3, 1, 1), event(3, 2, 1), event(1, 2, 0), gap(3, 3, 3)}, event(1, 3, 1), 6, 1,
			[]Entry{{2, event(1, 1, 1)}, {3, gap(2, 1, 1)}, {4, event(3, 1, 1)}, {5, event(3, 2, 1)}, {6, gap(1, 2, 2)}, {7, gap(3, 3, 3)}, {8, event(1, 3, 1)}}},
		{"own events between it and the gaps", 4, items{gap(1, 1, 1), own(1, 2, 15), event(1, 3, 0), own(1, 4, 20), gap(1, 5, 5)}, event(1, 6, 0), 4, 1,
			[]Entry{{2, gap(1, 1, 1)}, {3, own(1, 2, 15)}, {4, gap(1, 3, 3)}, {5, own(1, 4, 20)}, {6, gap(1, 5, 5)}, {7, event(1, 6, 0)}}},
		{"events between it and the gaps", 4, items{gap(1, 1, 1), event(1, 2, 1), event(1, 3, 0), event(1, 4, 1), gap(1, 5, 5)}, event(1, 6, 0), 4, 1,
			[]Entry{{2, gap(1, 1, 1)}, {3, event(1, 2, 1)}, {4, gap(1, 3, 3)}, {5, event(1, 4, 1)}, {6, gap(1, 5, 5)}, {7, event(1, 6, 0)}}},
		{"for a less important event", 0, items{gap(1, 1, 1), event(1, 2, 6), event(2, 1, 7)}, event(1, 3, 0), 2, 1,
			[]Entry{{2, gap(1, 1, 2)}, {4, event(2, 1, 7)}, {5, event(1, 3, 0)}}},
		{"for a node's own event", 0, items{event(1, 1, 7), sized(1, 2, 6, 22), event(2, 1, 7)}, own(1, 3, 18), 3, 1,
			[]Entry{{2, event(1, 1, 7)}, {3, gap(1, 2, 2)}, {4, event(2, 1, 7)}, {5, own(1, 3, 18)}}},
		{"for a gap", 0, items{event(1, 1, 7), event(1, 2, 7)}, gap(2, 1, 9), 2, 1,
			[]Entry{{2, gap(1, 1, 1)}, {3, event(1, 2, 7)}, {4, gap(2, 1, 9)}}},
		{"for the rest of a gap", 3, items{event(1, 1, 7), event(1, 2, 7)}, gap(1, 2, 9), 2, 1,
			[]Entry{{2, gap(1, 1, 1)}, {3, event(1, 2, 7)}, {4, gap(1, 3, 9)}}},
	} {
		c.check(t)
	}
}

// TestEvictMany evicts two events and more for one Put.
func TestEvictMany(t *testing.T) {
	for _, c := range []evictCase{
		{"two, one behind the other", 0, items{event(1, 1, 0), event(1, 2, 0)}, event(1, 3, 0), 2, 2,
			[]Entry{{2, gap(1, 1, 2)}, {4, event(1, 3, 0)}}},
		{"two, the second first", 0, items{event(1, 1, 1), event(1, 2, 0)}, event(1, 3, 0), 2, 2,
			[]Entry{{2, gap(1, 1, 2)}, {4, event(1, 3, 0)}}},
		{"two of two origins", 0, items{event(1, 1, 0), event(2, 1, 0), event(1, 2, 5)}, event(1, 3, 0), 2, 2,
			[]Entry{{2, gap(1, 1, 1)}, {3, gap(2, 1, 1)}, {4, event(1, 2, 5)}, {5, event(1, 3, 0)}}},
		{"two of two origins, the second first", 0, items{event(1, 1, 5), event(1, 2, 1), event(2, 1, 0)}, event(1, 3, 0), 3, 2,
			[]Entry{{2, event(1, 1, 5)}, {3, gap(1, 2, 2)}, {4, gap(2, 1, 1)}, {5, event(1, 3, 0)}}},
		{"two with a gap between", 7, items{event(1, 1, 1), gap(1, 2, 4), event(1, 5, 0)}, sized(1, 6, 0, 26), 2, 2,
			[]Entry{{2, gap(1, 1, 5)}, {5, sized(1, 6, 0, 26)}}},
		{"three, the last one of them between the others", 0, items{event(1, 1, 0), event(2, 1, 1), event(1, 2, 1), event(2, 2, 1), event(1, 3, 0)}, sized(1, 4, 0, 21), 2, 3,
			[]Entry{{2, gap(1, 1, 1)}, {3, gap(2, 1, 1)}, {4, event(1, 2, 1)}, {5, event(2, 2, 1)}, {6, gap(1, 3, 3)}, {7, sized(1, 4, 0, 21)}}},
		{"three that become one", 0, items{event(1, 1, 0), event(2, 1, 7), event(1, 2, 2), event(1, 3, 1)}, sized(1, 4, 0, 29), 2, 3,
			[]Entry{{2, gap(1, 1, 3)}, {3, event(2, 1, 7)}, {6, sized(1, 4, 0, 29)}}},
		{"one that frees a byte too few, and another", 3, items{event(1, 1, 0), event(2, 1, 0)}, event(3, 1, 0), 2, 2,
			[]Entry{{2, gap(1, 1, 1)}, {3, gap(2, 1, 1)}, {4, event(3, 1, 0)}}},
	} {
		c.check(t)
	}
}

// TestEvictCrowd evicts fourteen events for one, own events between them: they free 7 bytes, and then 11 each.
func TestEvictCrowd(t *testing.T) {
	c := evictCase{about: "fourteen", x: sized(3, 1, 0, 7+13*11), from: 2, evicted: 14, want: []Entry{{2, gap(1, 1, 14)}}}
	for i := range uint64(21) {
		x, y := event(1, i+1, 3), own(2, i+1, 15)
		c.waits = append(c.waits, x, y)
		if i >= 14 {
			c.want = append(c.want, Entry{2*i + 2, x})
		}
		c.want = append(c.want, Entry{2*i + 3, y})
	}
	c.want = append(c.want, Entry{44, c.x})
	c.check(t)
}

// TestPutGap puts gaps, which are joined to a gap that waits last of their origin, and to no other one.
func TestPutGap(t *testing.T) {
	for _, c := range []evictCase{
		{"a gap behind a gap", 4, items{gap(1, 1, 3)}, gap(1, 4, 9), 2, 0,
			[]Entry{{2, gap(1, 1, 9)}}},
		{"a gap behind a gap, others between", 50, items{gap(1, 1, 3), event(2, 1, 0), own(3, 1, 15), gap(4, 1, 3)}, gap(1, 4, 9), 2, 0,
			[]Entry{{2, gap(1, 1, 9)}, {3, event(2, 1, 0)}, {4, own(3, 1, 15)}, {5, gap(4, 1, 3)}}},
		{"a gap that is old in part behind a gap", 4, items{event(2, 1, 0), gap(1, 1, 3)}, gap(1, 2, 9), 3, 0,
			[]Entry{{2, event(2, 1, 0)}, {3, gap(1, 1, 9)}}},
		{"a gap behind an event", 4, items{gap(1, 1, 3), event(1, 4, 0)}, gap(1, 5, 9), 0, 0,
			[]Entry{{2, gap(1, 1, 3)}, {3, event(1, 4, 0)}, {4, gap(1, 5, 9)}}},
		{"a gap behind an own event", 4, items{gap(1, 1, 3), own(1, 4, 15)}, gap(1, 5, 9), 0, 0,
			[]Entry{{2, gap(1, 1, 3)}, {3, own(1, 4, 15)}, {4, gap(1, 5, 9)}}},
		{"a gap behind another origin's gap", 4, items{event(1, 1, 0), event(1, 2, 0), event(1, 3, 0), gap(2, 1, 3)}, gap(1, 4, 9), 0, 0,
			[]Entry{{2, event(1, 1, 0)}, {3, event(1, 2, 0)}, {4, event(1, 3, 0)}, {5, gap(2, 1, 3)}, {6, gap(1, 4, 9)}}},
		{"an event behind a gap", 11, items{gap(1, 1, 3)}, event(1, 4, 0), 0, 0,
			[]Entry{{2, gap(1, 1, 3)}, {3, event(1, 4, 0)}}},
		{"a gap behind what is evicted", 0, items{gap(2, 1, 1), event(1, 1, 0)}, gap(1, 2, 9), 3, 1,
			[]Entry{{2, gap(2, 1, 1)}, {3, gap(1, 1, 9)}}},
		{"a gap behind what is evicted, and the gap ahead", 0, items{gap(1, 1, 4), event(1, 5, 0)}, gap(1, 6, 9), 2, 1,
			[]Entry{{2, gap(1, 1, 9)}}},
		{"a gap behind a gap, and what is evicted behind that", 0, items{gap(1, 1, 4), event(2, 1, 0)}, gap(1, 5, 9), 2, 1,
			[]Entry{{2, gap(1, 1, 9)}, {3, gap(2, 1, 1)}}},
		{"a gap behind a gap, and what is evicted ahead of that", 0, items{event(2, 1, 0), gap(1, 1, 4)}, gap(1, 5, 9), 2, 1,
			[]Entry{{2, gap(2, 1, 1)}, {3, gap(1, 1, 9)}}},
		{"a gap that fits only where it is joined", 3, items{gap(1, 1, 4), event(1, 5, 0), gap(1, 6, 7)}, gap(1, 8, 9), 2, 1,
			[]Entry{{2, gap(1, 1, 9)}}},
	} {
		c.check(t)
	}
}

// TestPutGapLasting: a gap needs room of its own, also where it would be joined.
func TestPutGapLasting(t *testing.T) {
	for left := range 5 {
		s := full(t, left, gap(1, 1, 4))
		was := s.Base()
		index, from, e := s.Put(gap(1, 5, 9))
		if left == 4 {
			was.Next, was.Highs[1], was.List[1].Item = 4, 9, gap(1, 1, 9)
			if index != 3 || from != 2 || e != api.OK {
				t.Errorf("P8.2: a gap behind a gap: %d, %d, %d", index, from, e)
			}
		} else if index != 0 || from != 0 || e != api.ErrFull {
			t.Errorf("P8.2: a gap that has no room, of %d bytes: %d, %d, %d", left, index, from, e)
		}
		wantBase(t, "P8.2: a gap behind a gap", s, s.Quota(), was)
	}
}

// TestPutGapAcked: a gap is not joined to one that was acknowledged.
func TestPutGapAcked(t *testing.T) {
	s := full(t, 50, gap(1, 1, 4), event(2, 1, 0))
	wantError(t, "P8.3: Ack", s.Ack(2), api.OK)
	want := s.Base()
	index, from, e := s.Put(gap(1, 5, 9))
	if index != 4 || from != 0 || e != api.OK {
		t.Errorf("P8.2: a gap behind one that was acknowledged: %d, %d, %d", index, from, e)
	}
	want.Next, want.Highs[1], want.List = 5, 9, append(want.List, Entry{4, gap(1, 5, 9)})
	wantBase(t, "P8.2: a gap behind one that was acknowledged", s, s.Quota(), want)

	wantError(t, "P8.3: Ack of all", s.Ack(4), api.OK)
	index, from, e = s.Put(gap(1, 8, 12))
	if index != 5 || from != 0 || e != api.OK {
		t.Errorf("P8.2: a gap that is old in part, behind one that was acknowledged: %d, %d, %d", index, from, e)
	}
	want.Next, want.Acked, want.Highs[1], want.List = 6, 4, 12, []Entry{{5, gap(1, 10, 12)}}
	wantBase(t, "P8.2: a gap behind one that was acknowledged", s, s.Quota(), want)
}

// TestEvictAcked: what was acknowledged is not evicted, and no gap is joined to it.
func TestEvictAcked(t *testing.T) {
	s := full(t, 0, gap(1, 1, 2), event(1, 3, 0), event(1, 4, 1), event(1, 5, 1))
	wantError(t, "P8.3: Ack", s.Ack(3), api.OK)
	index, from, e := s.Put(sized(2, 1, 0, 64+4+11+7))
	if index != 6 || from != 4 || e != api.OK {
		t.Errorf("P8.2: an event: %d, %d, %d", index, from, e)
	}
	wantBase(t, "P8.2: an event", s, s.Quota(), Base{Next: 7, Acked: 3, Evicted: 1, Highs: [api.MaxNodes]uint64{1: 5, 2: 1, 31: 1}, List: []Entry{
		{4, gap(1, 4, 4)}, {5, event(1, 5, 1)}, {6, sized(2, 1, 0, 86)},
	}})
}

// TestPriorities: in spools with none, one byte too few and more, events of any two priorities, and own events, are evicted by their priority and then by their age.
func TestPriorities(t *testing.T) {
	for first := range uint8(api.MaxPrio + 1) {
		for second := range uint8(api.MaxPrio + 1) {
			for left := range 45 {
				testPriorities(t, first, second, left)
			}
		}
	}
}

// testPriorities puts an event of 40 bytes behind four of 20: each that is evicted frees 16, as none of them are joined.
func testPriorities(t *testing.T, first, second uint8, left int) {
	t.Helper()
	waits := items{own(1, 1, 15), sized(2, 1, first, 20), sized(3, 1, second, 20), gap(4, 1, 1), sized(5, 1, first, 20), sized(6, 1, second, 20)}
	order := []uint64{3, 4, 6, 7}
	if first < second {
		order = []uint64{3, 6, 4, 7}
	} else if second < first {
		order = []uint64{4, 7, 3, 6}
	}
	c := evictCase{about: "priorities", left: left, waits: waits, x: sized(7, 1, first, 40)}
	for left+16*int(c.evicted) < 40 {
		c.evicted++
	}
	gone := map[uint64]bool{}
	for _, index := range order[:c.evicted] {
		gone[index] = true
		if c.from == 0 || index < c.from {
			c.from = index
		}
	}
	for i, x := range waits {
		index := uint64(i + 2)
		if gone[index] {
			x = gap(x.Event.Origin, 1, 1)
		}
		c.want = append(c.want, Entry{index, x})
	}
	c.want = append(c.want, Entry{8, c.x})
	c.check(t)
}

// TestFull: what does not fit, however many events are evicted for it, changes nothing.
func TestFull(t *testing.T) {
	for _, c := range []struct {
		about string
		left  int
		waits items
		x     api.Item
	}{
		{"a byte too few, of gaps and own events", 10, items{own(1, 1, 15), gap(2, 1, 4), own(2, 5, 20)}, event(3, 1, 7)},
		{"a byte too few for a gap", 3, items{own(1, 1, 15), gap(2, 1, 4)}, gap(3, 1, 1)},
		{"a byte too few for an own event", 14, items{gap(2, 1, 4)}, own(3, 1, 15)},
		{"a byte too few behind an eviction", 3, items{event(1, 1, 0)}, event(1, 2, 0)},
		{"a byte too few behind one that is joined", 0, items{gap(1, 1, 4), event(1, 5, 0)}, sized(1, 6, 0, 12)},
		{"a byte too few behind three", 4, items{event(1, 1, 3), event(1, 2, 0), own(2, 1, 15), event(1, 3, 1), gap(2, 2, 2)}, sized(1, 4, 0, 34)},
		{"more than all", 0, items{event(1, 1, 0), event(2, 1, 0)}, sized(1, 2, 0, 170)},
	} {
		s := full(t, c.left, c.waits...)
		was := s.Base()
		for range 2 {
			index, from, e := s.Put(c.x)
			if index != 0 || from != 0 || e != api.ErrFull {
				t.Errorf("P8.2: Put of %s: %d, %d, %d", c.about, index, from, e)
			}
			wantBase(t, "R4: Put of "+c.about, s, s.Quota(), was)
		}
		c.left++
		index, _, e := full(t, c.left, c.waits...).Put(c.x)
		if c.about != "more than all" && (index == 0 || e != api.OK) {
			t.Errorf("P8.2: Put of %s, with a byte more: %d, %d", c.about, index, e)
		}
	}
	for _, quota := range []int{64, 100} {
		s := made(t, quota)
		index, from, e := s.Put(sized(1, 1, 7, quota+1))
		if index != 0 || from != 0 || e != api.ErrFull {
			t.Errorf("P8.2: an item of more than the quota: %d, %d, %d", index, from, e)
		}
		wantBase(t, "R4: an item of more than the quota", s, quota, Base{Next: 1})
		puts(t, s, sized(1, 1, 7, quota))
	}
}

// TestLastIndex: the last index is 2^40 - 1; behind it nothing is put, nor evicted.
func TestLastIndex(t *testing.T) {
	waits := []Entry{{api.MaxNumber - 3, own(2, 1, 40)}, {api.MaxNumber - 2, event(1, 1, 0)}}
	highs := [api.MaxNodes]uint64{1: 1, 2: 1}
	b := Base{Next: api.MaxNumber - 1, Acked: 9, Evicted: 5, Highs: highs, List: waits}
	s := of(t, 64, b)
	index, from, e := s.Put(event(1, 2, 0))
	if index != api.MaxNumber-1 || from != 0 || e != api.OK {
		t.Errorf("P8.2: the last index: %d, %d, %d", index, from, e)
	}
	b.Next, b.Highs[1], b.List = api.MaxNumber, 2, append(waits, Entry{api.MaxNumber - 1, event(1, 2, 0)})
	wantBase(t, "P8.2: the last index", s, 64, b)
	for _, c := range []struct {
		about string
		x     api.Item
		e     api.Errno
	}{
		{"an item for which something would be evicted", event(1, 3, 0), api.ErrRange},
		{"an item for which two would be evicted", event(3, 1, 0), api.ErrRange},
		{"an item for which there is no room", sized(1, 3, 0, 60), api.ErrFull},
		{"a gap", gap(1, 3, 3), api.ErrRange},
		{"an old item", event(1, 2, 0), api.ErrOld},
		{"an item behind the next", event(1, 4, 0), api.ErrJump},
		{"no item", api.Item{}, api.ErrRange},
		{"an event with a bad rule", filled(api.Event{Origin: 1, Seq: 3, Rule: "A"}, 11), api.ErrName},
	} {
		index, from, e := s.Put(c.x)
		if index != 0 || from != 0 || e != c.e {
			t.Errorf("P8.2: Put of %s behind the last index: %d, %d, %d, want %d", c.about, index, from, e, c.e)
		}
		wantBase(t, "R4: Put of "+c.about+" behind the last index", s, 64, b)
	}
	wantError(t, "P8.3: Ack of the last index", s.Ack(api.MaxNumber-1), api.OK)
	_, _, e = s.Put(gap(4, 1, 1))
	wantError(t, "P8.2: Put to an empty spool behind the last index", e, api.ErrRange)
	wantError(t, "P8.3: Ack behind the last index", s.Ack(api.MaxNumber), api.ErrRange)
	b.Acked, b.List = api.MaxNumber-1, nil
	wantBase(t, "P8.3: the last index is acknowledged", s, 64, b)
}
