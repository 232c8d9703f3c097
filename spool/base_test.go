package spool

import (
	"slices"
	"testing"

	"watchfire/api"
	"watchfire/item"
)

// someBase returns contents of 59 bytes, with indexes that are used up, origins of which nothing waits, and a first count that is not 1.
func someBase() Base {
	return Base{
		Next: 12, Acked: 3, Evicted: 7,
		Highs: [api.MaxNodes]uint64{1: 9, 2: 4, 5: 77, 30: api.MaxNumber},
		List:  []Entry{{4, gap(1, 3, 5)}, {5, event(2, 4, 3)}, {7, sized(1, 6, 0, 25)}, {8, own(1, 7, 15)}, {11, gap(1, 8, 9)}},
	}
}

func TestOf(t *testing.T) {
	for _, quota := range []int{64, 100, 65536} {
		b := someBase()
		s := of(t, quota, b)
		wantBase(t, "P8.3: Of", s, quota, b)
		again := of(t, quota, s.Base())
		wantBase(t, "P8.3: Of what Base returns", again, quota, b)
		for _, x := range []api.Item{event(2, 4, 3), event(1, 9, 0), gap(5, 70, 77), gap(30, 1, api.MaxNumber)} {
			_, _, e := s.Put(x)
			wantError(t, "P8.3: Put of what is old by a Base", e, api.ErrOld)
		}
		for _, x := range []api.Item{event(2, 6, 3), event(1, 11, 0), gap(5, 79, 79), gap(6, 2, 2)} {
			_, _, e := s.Put(x)
			wantError(t, "P8.3: Put of what jumps by a Base", e, api.ErrJump)
		}
		wantError(t, "P8.3: Ack of what is acknowledged by a Base", s.Ack(3), api.ErrOld)
		wantError(t, "P8.3: Ack of what is not assigned by a Base", s.Ack(12), api.ErrRange)
		index, from, e := s.Put(gap(1, 10, 12))
		if index != 12 || from != 11 || e != api.OK {
			t.Errorf("P8.3: Put behind Of: %d, %d, %d", index, from, e)
		}
		wantBase(t, "P8.3: a spool of the same Base", again, quota, b)
	}
}

// TestOfChanged turns each thing of a Base.
func TestOfChanged(t *testing.T) {
	for _, c := range []struct {
		about  string
		change func(b *Base)
		e      api.Errno
	}{
		{"nothing", func(b *Base) {}, api.OK},
		{"Next 0", func(b *Base) { b.Next = 0 }, api.ErrRange},
		{"Next 0, and nothing else", func(b *Base) { *b = Base{} }, api.ErrRange},
		{"Next 1, and nothing else", func(b *Base) { *b = Base{Next: 1} }, api.OK},
		{"Next 2^40", func(b *Base) { b.Next = api.MaxNumber }, api.OK},
		{"Next 2^40, Acked right below it", func(b *Base) { *b = Base{Next: api.MaxNumber, Acked: api.MaxNumber - 1} }, api.OK},
		{"Next above 2^40", func(b *Base) { b.Next = api.MaxNumber + 1 }, api.ErrRange},
		{"the greatest Next", func(b *Base) { b.Next = great }, api.ErrRange},
		{"Next of the last entry", func(b *Base) { b.Next = 11 }, api.ErrOrder},
		{"Next below the last entry", func(b *Base) { b.Next = 10 }, api.ErrOrder},
		{"Next of Acked", func(b *Base) { b.Next = 3 }, api.ErrRange},
		{"Next right above Acked", func(b *Base) { b.Next = 4 }, api.ErrOrder},
		{"Acked 0", func(b *Base) { b.Acked = 0 }, api.OK},
		{"Acked of the first entry", func(b *Base) { b.Acked = 4 }, api.ErrOrder},
		{"Acked of the last entry", func(b *Base) { b.Acked = 11 }, api.ErrOrder},
		{"Acked of Next", func(b *Base) { b.Acked = 12 }, api.ErrRange},
		{"the greatest Acked", func(b *Base) { b.Acked = great }, api.ErrRange},
		{"Acked of Next, nothing waits", func(b *Base) { b.Acked, b.List = 12, nil }, api.ErrRange},
		{"Acked right below Next, nothing waits", func(b *Base) { b.Acked, b.List = 11, nil }, api.OK},
		{"Evicted 0", func(b *Base) { b.Evicted = 0 }, api.OK},
		{"the greatest Evicted", func(b *Base) { b.Evicted = great }, api.OK},
		{"an index 0", func(b *Base) { b.List[0].Index = 0 }, api.ErrOrder},
		{"an index of Acked", func(b *Base) { b.List[0].Index = 3 }, api.ErrOrder},
		{"an index of the one ahead", func(b *Base) { b.List[2].Index = 5 }, api.ErrOrder},
		{"an index below the one ahead", func(b *Base) { b.List[2].Index = 4 }, api.ErrOrder},
		{"an index between", func(b *Base) { b.List[2].Index = 6 }, api.OK},
		{"an index of Next", func(b *Base) { b.List[4].Index = 12 }, api.ErrOrder},
		{"an index above Next", func(b *Base) { b.List[2].Index = great }, api.ErrOrder},
		{"two entries' places", func(b *Base) { b.List[1], b.List[2] = b.List[2], b.List[1] }, api.ErrOrder},
		{"two items' places", func(b *Base) { b.List[1].Item, b.List[2].Item = b.List[2].Item, b.List[1].Item }, api.OK},
		{"two items' places, of one origin", func(b *Base) { b.List[2].Item, b.List[3].Item = b.List[3].Item, b.List[2].Item }, api.ErrOrder},
		{"an item that is missing", func(b *Base) { b.List = slices.Delete(b.List, 2, 3) }, api.ErrOrder},
		{"the first item that is missing", func(b *Base) { b.List = b.List[1:] }, api.OK},
		{"the last item that is missing", func(b *Base) { b.List = b.List[:4] }, api.ErrOrder},
		{"an origin's only item that is missing", func(b *Base) { b.List = slices.Delete(b.List, 1, 2) }, api.OK},
		{"all items that are missing", func(b *Base) { b.List = nil }, api.OK},
		{"an item that is there twice", func(b *Base) { b.List[3].Item = b.List[2].Item }, api.ErrOrder},
		{"a gap that overlaps", func(b *Base) { b.List[0].Item = gap(1, 3, 6) }, api.ErrOrder},
		{"a gap that begins too early", func(b *Base) { b.List[4].Item = gap(1, 7, 9) }, api.ErrOrder},
		{"a gap that begins too late", func(b *Base) { b.List[4].Item = gap(1, 9, 9) }, api.ErrOrder},
		{"a gap that ends too early", func(b *Base) { b.List[0].Item = gap(1, 3, 4) }, api.ErrOrder},
		{"a gap that begins at 1", func(b *Base) { b.List[0].Item = gap(1, 1, 5) }, api.OK},
		{"a gap that ends below High", func(b *Base) { b.List[4].Item = gap(1, 8, 8) }, api.ErrOrder},
		{"a gap that ends above High", func(b *Base) { b.List[4].Item = gap(1, 8, 10) }, api.ErrOrder},
		{"an event above High", func(b *Base) { b.List[1].Item.Event.Seq = 5 }, api.ErrOrder},
		{"an event below High", func(b *Base) { b.List[1].Item.Event.Seq = 3 }, api.ErrOrder},
		{"another origin's event", func(b *Base) { b.List[1].Item.Event.Origin = 5 }, api.ErrOrder},
		{"another origin's event, at its High", func(b *Base) { b.List[1].Item = event(5, 77, 0) }, api.OK},
		{"another origin's event, of which there was none", func(b *Base) { b.List[1].Item.Event.Origin = 6 }, api.ErrOrder},
		{"High above the last", func(b *Base) { b.Highs[1] = 10 }, api.ErrOrder},
		{"High below the last", func(b *Base) { b.Highs[1] = 8 }, api.ErrOrder},
		{"High 0 of what waits", func(b *Base) { b.Highs[2] = 0 }, api.ErrOrder},
		{"High 0 of what does not wait", func(b *Base) { b.Highs[5] = 0 }, api.OK},
		{"High 2^40 of what does not wait", func(b *Base) { b.Highs[31] = api.MaxNumber }, api.OK},
		{"High above 2^40 of what does not wait", func(b *Base) { b.Highs[31] = api.MaxNumber + 1 }, api.ErrOrder},
		{"the greatest High of what does not wait", func(b *Base) { b.Highs[0] = great }, api.ErrOrder},
		{"the greatest High of what waits", func(b *Base) { b.Highs[2] = great }, api.ErrOrder},
		{"another priority", func(b *Base) { b.List[1].Item.Event.Prio = 7 }, api.OK},
		{"no priority", func(b *Base) { b.List[1].Item.Event.Prio = 8 }, api.ErrRange},
		{"no gap", func(b *Base) { b.List[0].Item = gap(1, 5, 3) }, api.ErrRange},
		{"no item", func(b *Base) { b.List[2].Item = api.Item{} }, api.ErrRange},
		{"no rule", func(b *Base) { b.List[2].Item.Event.Rule = "" }, api.ErrName},
		{"no state", func(b *Base) { b.List[2].Item.Event.State = api.Unknown }, api.ErrKind},
		{"no own event", func(b *Base) { b.List[3].Item.Event.Own = 0 }, api.ErrWord},
		{"labels in disorder", func(b *Base) {
			b.List[1].Item.Event.Labels = []api.Pair{{Key: "b", Value: "b"}, {Key: "a", Value: "a"}}
		}, api.ErrOrder},
		{"labels that are there twice", func(b *Base) {
			b.List[1].Item.Event.Labels = []api.Pair{{Key: "a", Value: "b"}, {Key: "a", Value: "c"}}
		}, api.ErrTwice},
		{"labels that are too many", func(b *Base) { b.List[1].Item.Event.Labels = make([]api.Pair, 9) }, api.ErrMany},
		{"an item that fills the quota", func(b *Base) { b.List[2].Item = sized(1, 6, 0, 30) }, api.OK},
		{"an item that is too long", func(b *Base) { b.List[2].Item = sized(1, 6, 0, 31) }, api.ErrQuota},
		{"64 entries", func(b *Base) { b.Next, b.Highs[1], b.List = 90, 64, gaps(64) }, api.ErrQuota},
		{"65 entries", func(b *Base) { b.Next, b.Highs[1], b.List = 90, 65, gaps(65) }, api.ErrRange},
	} {
		b := someBase()
		c.change(&b)
		s, e := Of(64, b)
		if e != c.e || (s == nil) != (e != api.OK) {
			t.Errorf("P8.3: Of with %s: %d, want %d", c.about, e, c.e)
		}
		if s != nil {
			wantBase(t, "P8.3: Of with "+c.about, s, 64, b)
		}
	}
}

// gaps returns so many entries of gaps of one count each, behind someBase's Acked.
func gaps(n int) []Entry {
	var l []Entry
	for i := range uint64(n) {
		l = append(l, Entry{i + 4, gap(1, i+1, i+1)})
	}
	return l
}

// TestOfFirst: of several errors the one that is named first is told, and of several entries the first one's.
func TestOfFirst(t *testing.T) {
	next := func(b *Base) { b.Next = 0 }
	acked := func(b *Base) { b.Acked = 12 }
	many := func(b *Base) { b.List = append(b.List, make([]Entry, 60)...) }
	item0 := func(b *Base) { b.List[0].Item.Gap.From = 0 }
	item2 := func(b *Base) { b.List[2].Item.Event.Rule = "" }
	item4 := func(b *Base) {
		b.List[4].Item = filled(api.Event{Origin: 1, Seq: 99, State: api.Unknown, Rule: "a"}, 11)
	}
	index1 := func(b *Base) { b.List[1].Index = 1 }
	index2 := func(b *Base) { b.List[2].Index = 1 }
	index4 := func(b *Base) { b.List[4].Index = 99 }
	part1 := func(b *Base) { b.List[0].Item = gap(1, 3, 10) }
	high := func(b *Base) { b.Highs[31] = great }
	long := func(b *Base) { b.List[2].Item = sized(1, 6, 0, 99) }
	for _, c := range []struct {
		about   string
		quota   int
		changes []func(b *Base)
		e       api.Errno
	}{
		{"a quota, and all else", 63, []func(b *Base){next, acked, many, item0, index2, high}, api.ErrQuota},
		{"Next, and an entry", 64, []func(b *Base){next, item2, index4}, api.ErrRange},
		{"Acked, and an entry", 64, []func(b *Base){acked, item2, index2}, api.ErrRange},
		{"too many, and an entry", 64, []func(b *Base){item2, many, index2}, api.ErrRange},
		{"an entry's item and its index", 64, []func(b *Base){item2, index2}, api.ErrName},
		{"the last entry's item and its index, and High", 64, []func(b *Base){item4, index4, high}, api.ErrKind},
		{"an entry's index, and a later one's item", 64, []func(b *Base){index1, item2}, api.ErrOrder},
		{"an entry's item, and a later one's index", 64, []func(b *Base){item2, index4}, api.ErrName},
		{"two items", 64, []func(b *Base){item4, item2}, api.ErrName},
		{"counts that lie in part above High, and a later item", 64, []func(b *Base){part1, item2}, api.ErrOrder},
		{"an item, and High", 64, []func(b *Base){high, item2}, api.ErrName},
		{"an item, and the quota", 64, []func(b *Base){long, item4}, api.ErrKind},
		{"an index, and the quota", 64, []func(b *Base){long, index4}, api.ErrOrder},
		{"High, and the quota", 64, []func(b *Base){long, high}, api.ErrOrder},
	} {
		b := someBase()
		for _, change := range c.changes {
			change(&b)
		}
		if s, e := Of(c.quota, b); s != nil || e != c.e {
			t.Errorf("R2: Of with %s: %d, want %d", c.about, e, c.e)
		}
	}
}

// TestOfFull: contents may fill the quota, and not exceed it by a byte.
func TestOfFull(t *testing.T) {
	for _, quota := range []int{64, 65, 65536} {
		for over := range 2 {
			b := Base{Next: 1}
			for left := quota + over; left > 0; {
				size := 40
				if left < 2*size {
					size = left
				}
				b.Highs[3]++
				b.List = append(b.List, Entry{b.Next, filled(api.Event{Origin: 3, Seq: b.Highs[3], Rule: "a"}, size)})
				b.Next++
				left -= size
			}
			s, e := Of(quota, b)
			if over == 1 {
				if s != nil || e != api.ErrQuota {
					t.Errorf("P8.3: Of with a byte more than the quota: %d", e)
				}
				continue
			}
			wantError(t, "P8.3: Of with as much as the quota", e, api.OK)
			wantBase(t, "P8.3: Of with as much as the quota", s, quota, b)
		}
	}
}

// TestOfApart: gaps that continue each other may come from a Base, and stay apart but for the nearest ones of what is evicted or put.
func TestOfApart(t *testing.T) {
	b := Base{Next: 10, Highs: [api.MaxNodes]uint64{1: 5, 2: 1}, List: []Entry{
		{1, gap(1, 1, 1)}, {2, gap(1, 2, 2)}, {3, event(1, 3, 0)}, {4, gap(1, 4, 4)}, {5, gap(1, 5, 5)}, {6, own(2, 1, 37)},
	}}
	s := of(t, 64, b)
	wantBase(t, "P8.3: gaps apart", s, 64, b)
	index, from, e := s.Put(event(3, 1, 0))
	if index != 10 || from != 2 || e != api.OK {
		t.Errorf("P8.2: Put to gaps apart: %d, %d, %d", index, from, e)
	}
	b = Base{Next: 11, Evicted: 1, Highs: [api.MaxNodes]uint64{1: 5, 2: 1, 3: 1}, List: []Entry{
		{1, gap(1, 1, 1)}, {2, gap(1, 2, 4)}, {5, gap(1, 5, 5)}, {6, own(2, 1, 37)}, {10, event(3, 1, 0)},
	}}
	wantBase(t, "P8.2: an eviction between gaps apart", s, 64, b)
	wantError(t, "P8.3: Ack", s.Ack(1), api.OK)
	index, from, e = s.Put(gap(1, 6, 8))
	if index != 11 || from != 5 || e != api.OK {
		t.Errorf("P8.2: Put of a gap behind gaps apart: %d, %d, %d", index, from, e)
	}
	b.Next, b.Acked, b.Highs[1], b.List = 12, 1, 8, b.List[1:]
	b.List[1].Item = gap(1, 5, 8)
	wantBase(t, "P8.2: a gap behind gaps apart", s, 64, b)
}

// TestBase: what Base returns of a spool that evicted, joined and removed is what Of takes, and both spools go on alike.
func TestBase(t *testing.T) {
	s := full(t, 0, gap(1, 1, 4), event(1, 5, 0), event(2, 1, 0), own(1, 6, 15), event(2, 2, 4))
	for _, x := range []api.Item{event(1, 7, 2), event(2, 3, 1), gap(2, 4, 4)} {
		_, _, e := s.Put(x)
		wantError(t, "P8.2: Put", e, api.OK)
		other := of(t, s.Quota(), s.Base())
		wantBase(t, "P8.3: Of what Base returns", other, s.Quota(), s.Base())
		other.Put(event(9, 1, 0))
		if s.High(9) != 0 {
			t.Error("P8.3: a spool and one of its Base are one")
		}
	}
	wantError(t, "P8.3: Ack", s.Ack(4), api.OK)
	other := of(t, s.Quota(), s.Base())
	for seq := uint64(8); seq < 30; seq++ {
		x := sized(1, seq, uint8(seq%4), 15)
		index, from, e := s.Put(x)
		againIndex, againFrom, f := other.Put(x)
		if index != againIndex || from != againFrom || e != f {
			t.Errorf("P8.3: Put of %d: %d, %d, %d, and %d, %d, %d", seq, index, from, e, againIndex, againFrom, f)
		}
		wantBase(t, "P8.3: Put behind Of", other, s.Quota(), s.Base())
	}
	if b := s.Base(); b.Evicted < 10 || item.Check(b.List[0].Item) != api.OK {
		t.Errorf("P8.2: %s", showBase(b))
	}
}
