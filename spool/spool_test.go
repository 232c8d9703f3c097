package spool

import (
	"fmt"
	"math"
	"slices"
	"strings"
	"testing"

	"watchfire/api"
	"watchfire/item"
)

// great is the greatest number.
const great = math.MaxUint64

// filled returns an event as an item of so many bytes, by a longer rule and by labels.
func filled(v api.Event, size int) api.Item {
	need := size - item.Size(item.Of(v))
	for key := 'a'; need > api.MaxName-len(v.Rule); key++ {
		// A label has 3 bytes beside its value.
		n := min(need, 3+api.MaxValue)
		v.Labels = append(v.Labels, api.Pair{Key: string(key), Value: strings.Repeat("v", n-3)})
		need -= n
	}
	v.Rule += strings.Repeat("x", need)
	return item.Of(v)
}

// sized returns an event of so many bytes, from 11 up (for counts below 128).
func sized(origin uint8, seq uint64, prio uint8, size int) api.Item {
	return filled(api.Event{Origin: origin, Seq: seq, Rule: "a", Prio: prio}, size)
}

// event returns one of 11 bytes.
func event(origin uint8, seq uint64, prio uint8) api.Item {
	return sized(origin, seq, prio, 11)
}

// own returns a node's own event, of so many bytes, from 15 up. It has the lowest priority, and is never evicted all the same.
func own(origin uint8, seq uint64, size int) api.Item {
	return filled(api.Event{Origin: origin, Seq: seq, Rule: "own.a", Own: api.OwnEvict}, size)
}

// gap returns one of 4 bytes (for counts below 128).
func gap(origin uint8, from, to uint64) api.Item {
	return item.Gap(origin, from, to)
}

func wantError(t *testing.T, about string, got, want api.Errno) {
	t.Helper()
	if got != want {
		t.Errorf("%s: %d, want %d", about, got, want)
	}
}

// made returns an empty spool.
func made(t *testing.T, quota int) *Spool {
	t.Helper()
	s, e := New(quota)
	if e != api.OK {
		t.Fatalf("P8.1: New(%d): %d", quota, e)
	}
	return s
}

// of returns a spool of contents.
func of(t *testing.T, quota int, b Base) *Spool {
	t.Helper()
	s, e := Of(quota, b)
	if e != api.OK {
		t.Fatalf("P8.3: Of(%d, %s): %d", quota, showBase(b), e)
	}
	return s
}

// puts puts items for which there is room.
func puts(t *testing.T, s *Spool, items ...api.Item) {
	t.Helper()
	for _, x := range items {
		_, _, next, _, evicted := s.Counts()
		index, _, e := s.Put(x)
		if _, _, _, _, now := s.Counts(); index != next || e != api.OK || now != evicted {
			t.Fatalf("P8.2: Put(%+v): %d, %d, and %d are evicted", x, index, e, now-evicted)
		}
	}
}

// full returns a spool in which these items wait, and in which so many bytes are left. The quota is at least 64 by an own event that is the first item.
func full(t *testing.T, left int, items ...api.Item) *Spool {
	t.Helper()
	base := own(31, 1, 64)
	s := made(t, sum(items)+item.Size(base)+left)
	puts(t, s, append([]api.Item{base}, items...)...)
	return s
}

func sum(items []api.Item) int {
	n := 0
	for _, x := range items {
		n += item.Size(x)
	}
	return n
}

func sameEntries(a, b []Entry) bool {
	return slices.EqualFunc(a, b, func(a, b Entry) bool { return a.Index == b.Index && item.Same(a.Item, b.Item) })
}

func sameBase(a, b Base) bool {
	return a.Next == b.Next && a.Acked == b.Acked && a.Evicted == b.Evicted && a.Highs == b.Highs && sameEntries(a.List, b.List)
}

// show tells entries in short: each one's index, origin, counts, bytes, and priority if it is an event.
func show(l []Entry) string {
	var b strings.Builder
	for _, entry := range l {
		origin, from, to := item.Span(entry.Item)
		fmt.Fprintf(&b, "[%d: of %d, %d to %d, %d bytes", entry.Index, origin, from, to, item.Size(entry.Item))
		if v := entry.Item.Event; !entry.Item.IsGap {
			fmt.Fprintf(&b, ", prio %d, own %d", v.Prio, v.Own)
		}
		b.WriteString("]")
	}
	return b.String()
}

func showBase(b Base) string {
	return fmt.Sprintf("next %d, acked %d, evicted %d, highs %v, %s", b.Next, b.Acked, b.Evicted, b.Highs, show(b.List))
}

// wantBase holds all that a spool tells of itself against what it should contain, and holds what it contains against what holds for every spool.
func wantBase(t *testing.T, about string, s *Spool, quota int, want Base) {
	t.Helper()
	if got := s.Base(); !sameBase(got, want) {
		t.Errorf("%s: %s, want %s", about, showBase(got), showBase(want))
	}
	used := 0
	for _, entry := range want.List {
		used += item.Size(entry.Item)
	}
	waits, bytes, next, acked, evicted := s.Counts()
	if waits != len(want.List) || bytes != used || next != want.Next || acked != want.Acked || evicted != want.Evicted {
		t.Errorf("%s: counts %d, %d, %d, %d, %d of %s", about, waits, bytes, next, acked, evicted, showBase(want))
	}
	for origin, high := range want.Highs {
		if got := s.High(uint8(origin)); got != high {
			t.Errorf("%s: High(%d): %d, want %d", about, origin, got, high)
		}
	}
	if got := s.List(0, math.MaxInt); !sameEntries(got, want.List) {
		t.Errorf("%s: List: %s, want %s", about, show(got), show(want.List))
	}
	if s.Quota() != quota {
		t.Errorf("%s: Quota: %d, want %d", about, s.Quota(), quota)
	}
	wantOrder(t, about, s)
}

// wantOrder: what waits is within the quota, in the order of the indexes, and of each origin it covers all counts up to the last that was put, each once and in order.
func wantOrder(t *testing.T, about string, s *Spool) {
	t.Helper()
	_, used, next, acked, _ := s.Counts()
	if used > s.Quota() {
		t.Errorf("P7: %s: %d bytes in a quota of %d", about, used, s.Quota())
	}
	ends := map[uint8]uint64{}
	behind := acked
	for _, entry := range s.List(0, math.MaxInt) {
		origin, from, to := item.Span(entry.Item)
		if entry.Index <= behind || entry.Index >= next {
			t.Errorf("P8.2: %s: index %d behind %d, next is %d", about, entry.Index, behind, next)
		}
		if end, waits := ends[origin]; waits && from != end+1 {
			t.Errorf("P4: %s: count %d of origin %d behind %d", about, from, origin, end)
		}
		behind, ends[origin] = entry.Index, to
	}
	for origin, end := range ends {
		if end != s.High(origin) {
			t.Errorf("P4: %s: origin %d ends at %d, High is %d", about, origin, end, s.High(origin))
		}
	}
}

func TestExample(t *testing.T) {
	s := made(t, 64)
	puts(t, s, sized(1, 1, 1, 20), sized(1, 2, 0, 24), sized(1, 3, 0, 20))
	index, from, e := s.Put(sized(1, 4, 1, 20))
	if index != 4 || from != 2 || e != api.OK {
		t.Errorf("the example: %d, %d, %d", index, from, e)
	}
	wantBase(t, "the example", s, 64, Base{Next: 5, Evicted: 1, Highs: [api.MaxNodes]uint64{1: 4}, List: []Entry{
		{1, sized(1, 1, 1, 20)}, {2, gap(1, 2, 2)}, {3, sized(1, 3, 0, 20)}, {4, sized(1, 4, 1, 20)},
	}})
}

func TestQuota(t *testing.T) {
	for _, quota := range []int{64, 65, 1000, 65535, 65536} {
		wantBase(t, "P8.1: a new spool", made(t, quota), quota, Base{Next: 1})
		wantBase(t, "P8.3: Of nothing", of(t, quota, Base{Next: 1}), quota, Base{Next: 1})
	}
	for _, quota := range []int{63, 65537, 0, 1, -1, -64, -65536, math.MinInt, math.MaxInt} {
		if s, e := New(quota); s != nil || e != api.ErrQuota {
			t.Errorf("P8.1: New(%d): %v, %d", quota, s, e)
		}
		if s, e := Of(quota, Base{Next: 1}); s != nil || e != api.ErrQuota {
			t.Errorf("P8.3: Of(%d): %v, %d", quota, s, e)
		}
	}
}

// TestQuotaFilled: the least and the greatest quota take as many bytes as they have, and not one more.
func TestQuotaFilled(t *testing.T) {
	for _, quota := range []int{64, 65536} {
		s := made(t, quota)
		for left, seq := quota, uint64(1); left > 0; seq++ {
			size := 32
			if left < 2*size {
				size = left
			}
			x := filled(api.Event{Origin: 4, Seq: seq, Rule: "own.a", Own: api.OwnDown}, size)
			if got := item.Size(x); got != size {
				t.Fatalf("an event of %d bytes, want %d", got, size)
			}
			puts(t, s, x)
			left -= size
		}
		if _, used, _, _, _ := s.Counts(); used != quota {
			t.Errorf("P8.1: %d bytes are used, want %d", used, quota)
		}
		_, _, e := s.Put(gap(5, 1, 1))
		wantError(t, "P8.2: Put to a full spool", e, api.ErrFull)
	}
}

func TestHigh(t *testing.T) {
	s := made(t, 1000)
	puts(t, s, event(0, 1, 0), event(31, 1, 0), gap(31, 2, 90), gap(7, 1, api.MaxNumber))
	for origin := range 256 {
		want := map[int]uint64{0: 1, 31: 90, 7: api.MaxNumber}[origin]
		if got := s.High(uint8(origin)); got != want {
			t.Errorf("P8.1: High(%d): %d, want %d", origin, got, want)
		}
	}
	wantError(t, "P8.3: Ack", s.Ack(4), api.OK)
	if s.High(31) != 90 || s.High(0) != 1 {
		t.Error("P8.1: High of what was acknowledged")
	}
}

// TestPut: items of several origins wait in the order in which they were put.
func TestPut(t *testing.T) {
	s := made(t, 200)
	items := []api.Item{event(2, 1, 0), event(1, 1, 7), gap(2, 2, 5), own(2, 6, 15), event(1, 2, 3), gap(0, 1, 1), event(2, 7, 0)}
	want := Base{Next: 1}
	for i, x := range items {
		index, from, e := s.Put(x)
		if index != uint64(i+1) || from != 0 || e != api.OK {
			t.Errorf("P8.2: Put %d: %d, %d, %d", i, index, from, e)
		}
		origin, _, to := item.Span(x)
		want.Next++
		want.Highs[origin] = to
		want.List = append(want.List, Entry{uint64(i + 1), x})
		wantBase(t, "P8.2: Put", s, 200, want)
	}
}

// TestPutSequence: of items that are put behind counts up to 5, what is old is left out, and nothing may be left out between.
func TestPutSequence(t *testing.T) {
	for _, c := range []struct {
		about string
		x     api.Item
		e     api.Errno
		part  api.Item
	}{
		{"the next event", event(1, 6, 0), api.OK, event(1, 6, 0)},
		{"the last event again", event(1, 5, 0), api.ErrOld, api.Item{}},
		{"the first event again", event(1, 1, 0), api.ErrOld, api.Item{}},
		{"an event behind the next", event(1, 7, 0), api.ErrJump, api.Item{}},
		{"the last event that there can be", sized(1, api.MaxNumber, 0, 16), api.ErrJump, api.Item{}},
		{"an own event again", own(1, 3, 15), api.ErrOld, api.Item{}},
		{"the next own event", own(1, 6, 15), api.OK, own(1, 6, 15)},
		{"an own event behind the next", own(1, 7, 15), api.ErrJump, api.Item{}},
		{"a gap of the next", gap(1, 6, 6), api.OK, gap(1, 6, 6)},
		{"a gap of the next and more", gap(1, 6, 9), api.OK, gap(1, 6, 9)},
		{"a gap that is old in part", gap(1, 5, 9), api.OK, gap(1, 6, 9)},
		{"a gap of all", gap(1, 1, 6), api.OK, gap(1, 6, 6)},
		{"a gap of all that can be", gap(1, 1, api.MaxNumber), api.OK, gap(1, 6, api.MaxNumber)},
		{"a gap that is old", gap(1, 1, 5), api.ErrOld, api.Item{}},
		{"a gap that is old, inside", gap(1, 2, 4), api.ErrOld, api.Item{}},
		{"a gap behind the next", gap(1, 7, 9), api.ErrJump, api.Item{}},
		{"another origin's first event", event(2, 1, 0), api.OK, event(2, 1, 0)},
		{"another origin's second event", event(2, 2, 0), api.ErrJump, api.Item{}},
		{"another origin's first gap", gap(0, 1, 3), api.OK, gap(0, 1, 3)},
		{"another origin's second gap", gap(0, 2, 3), api.ErrJump, api.Item{}},
	} {
		for _, acked := range []uint64{0, 2, 3} {
			s := made(t, 64)
			puts(t, s, gap(1, 1, 2), event(1, 3, 0), event(1, 4, 0))
			puts(t, s, event(1, 5, 0))
			if acked > 0 {
				wantError(t, "P8.3: Ack", s.Ack(acked), api.OK)
			}
			want := s.Base()
			index, from, e := s.Put(c.x)
			if e != c.e || from != 0 || e == api.OK && index != 5 || e != api.OK && index != 0 {
				t.Errorf("P8.2: Put of %s: %d, %d, %d, want %d", c.about, index, from, e, c.e)
			}
			if e == api.OK {
				origin, _, to := item.Span(c.part)
				want.Next, want.Highs[origin], want.List = 6, to, append(want.List, Entry{5, c.part})
			}
			wantBase(t, "P8.2: Put of "+c.about, s, 64, want)
		}
	}
}

// TestPutLast: behind the last count there is none.
func TestPutLast(t *testing.T) {
	s := made(t, 64)
	puts(t, s, gap(1, 1, api.MaxNumber))
	for _, x := range []api.Item{sized(1, api.MaxNumber, 0, 16), gap(1, api.MaxNumber, api.MaxNumber), gap(1, 1, api.MaxNumber)} {
		_, _, e := s.Put(x)
		wantError(t, "P8.2: Put of the last count again", e, api.ErrOld)
	}
	_, _, e := s.Put(gap(1, api.MaxNumber+1, api.MaxNumber+1))
	wantError(t, "P8.2: Put behind the last count", e, api.ErrRange)
}

// TestPutChecks: Put returns the errors of item's Check.
func TestPutChecks(t *testing.T) {
	change := func(change func(v *api.Event)) api.Item {
		x := event(1, 1, 0)
		change(&x.Event)
		return x
	}
	for _, x := range []api.Item{
		{}, {IsGap: true}, gap(32, 1, 1), gap(255, 1, 1), gap(1, 0, 0), gap(1, 0, 5), gap(1, 2, 1), gap(1, 1, api.MaxNumber+1), gap(1, 1, great),
		change(func(v *api.Event) { v.Origin = 32 }),
		change(func(v *api.Event) { v.Seq = 0 }),
		change(func(v *api.Event) { v.Seq = great }),
		change(func(v *api.Event) { v.Time = api.MaxNumber + 1 }),
		change(func(v *api.Event) { v.Prio = 8 }),
		change(func(v *api.Event) { v.Rule = "A" }),
		change(func(v *api.Event) { v.State = api.Pending }),
		change(func(v *api.Event) { v.Own = 3 }),
		change(func(v *api.Event) { v.Own = 1 }),
		change(func(v *api.Event) { v.Rule = "own.a" }),
		change(func(v *api.Event) { v.Labels = make([]api.Pair, 9) }),
		change(func(v *api.Event) { v.Labels = make([]api.Pair, 1) }),
		change(func(v *api.Event) { v.Labels = []api.Pair{{Key: "a", Value: "a"}, {Key: "a", Value: "a"}} }),
		change(func(v *api.Event) { v.Labels = []api.Pair{{Key: "b", Value: "a"}, {Key: "a", Value: "a"}} }),
	} {
		s := made(t, 64)
		puts(t, s, event(1, 1, 0))
		was := s.Base()
		index, from, e := s.Put(x)
		if e == api.OK || e != item.Check(x) || index != 0 || from != 0 {
			t.Errorf("P8.2: Put(%+v): %d, %d, %d, want %d", x, index, from, e, item.Check(x))
		}
		wantBase(t, "R4: Put of what is no item", s, 64, was)
	}
}

// TestAck acknowledges each index of six, of which some are joined away, and what is left waits.
func TestAck(t *testing.T) {
	for index := range uint64(10) {
		s := made(t, 100)
		puts(t, s, gap(1, 1, 3), event(2, 1, 0), gap(1, 4, 5), gap(2, 2, 2), own(3, 1, 15), gap(2, 3, 9))
		want := s.Base()
		if len(want.List) != 4 {
			t.Fatalf("P8.2: %+v", want.List)
		}
		switch {
		case index == 0:
			wantError(t, "P8.3: Ack of 0", s.Ack(index), api.ErrOld)
		case index >= 7:
			wantError(t, "P8.3: Ack of an index that was not assigned", s.Ack(index), api.ErrRange)
		default:
			wantError(t, "P8.3: Ack", s.Ack(index), api.OK)
			want.Acked = index
			want.List = slices.DeleteFunc(want.List, func(entry Entry) bool { return entry.Index <= index })
		}
		wantBase(t, "P8.3: Ack", s, 100, want)
		for again := range want.Acked + 1 {
			wantError(t, "P8.3: Ack again", s.Ack(again), api.ErrOld)
		}
		for _, above := range []uint64{7, 8, api.MaxNumber, great} {
			wantError(t, "P8.3: Ack of an index that was not assigned", s.Ack(above), api.ErrRange)
		}
		wantBase(t, "R4: Ack again", s, 100, want)
		if want.Acked < 6 {
			wantError(t, "P8.3: Ack of the last", s.Ack(6), api.OK)
			want.Acked, want.List = 6, nil
			wantBase(t, "P8.3: Ack of the last", s, 100, want)
		}
		puts(t, s, event(2, 10, 0))
	}
	s := made(t, 64)
	wantError(t, "P8.3: Ack of 0 of a new spool", s.Ack(0), api.ErrOld)
	wantError(t, "P8.3: Ack of 1 of a new spool", s.Ack(1), api.ErrRange)
}

// TestAckRoom: what is acknowledged makes room.
func TestAckRoom(t *testing.T) {
	s := made(t, 64)
	for seq := uint64(1); seq <= 100; seq++ {
		puts(t, s, own(1, seq, 32))
		if seq >= 2 {
			_, _, e := s.Put(own(1, seq+1, 15))
			wantError(t, "P8.2: Put to a full spool", e, api.ErrFull)
			wantError(t, "P8.3: Ack of the first of two", s.Ack(seq-1), api.OK)
		}
	}
	wantBase(t, "P8.3: Ack makes room", s, 64, Base{Next: 101, Acked: 99, Highs: [api.MaxNodes]uint64{1: 100}, List: []Entry{{100, own(1, 100, 32)}}})
}

// TestList lists behind any index, any number.
func TestList(t *testing.T) {
	for _, acked := range []uint64{0, 1, 4, 6} {
		s := made(t, 100)
		puts(t, s, gap(1, 1, 3), event(2, 1, 0), gap(1, 4, 5), gap(2, 2, 2), own(3, 1, 15), gap(2, 3, 9))
		if acked > 0 {
			wantError(t, "P8.3: Ack", s.Ack(acked), api.OK)
		}
		all := s.Base().List
		for _, behind := range []uint64{0, 1, 2, 3, 4, 5, 6, 7, 8, great - 1, great} {
			rest := slices.DeleteFunc(slices.Clone(all), func(entry Entry) bool { return entry.Index <= behind })
			for _, many := range []int{math.MinInt, -1, 0, 1, 2, 3, 4, 5, math.MaxInt} {
				want := rest[:max(0, min(many, len(rest)))]
				if got := s.List(behind, many); !sameEntries(got, want) {
					t.Errorf("P8.3: List(%d, %d): %s, want %s", behind, many, show(got), show(want))
				}
			}
		}
	}
}

// TestFind finds the last item up to any index: of an index that was joined away, whatever waits ahead of it.
func TestFind(t *testing.T) {
	s := made(t, 100)
	for _, index := range []uint64{0, 1, great} {
		wantFound(t, s, index, 0)
	}
	puts(t, s, gap(1, 1, 3), event(2, 1, 0), gap(1, 4, 5), gap(2, 2, 2), own(3, 1, 15), gap(2, 3, 9))
	for index, found := range []uint64{0, 1, 2, 2, 4, 5, 5, 5, 5} {
		wantFound(t, s, uint64(index), found)
	}
	wantFound(t, s, great, 5)
	wantError(t, "P8.3: Ack", s.Ack(3), api.OK)
	for index, found := range []uint64{0, 0, 0, 0, 4, 5, 5, 5, 5} {
		wantFound(t, s, uint64(index), found)
	}
	wantError(t, "P8.3: Ack", s.Ack(5), api.OK)
	for _, index := range []uint64{0, 1, 5, 6, 7, great} {
		wantFound(t, s, index, 0)
	}
}

// wantFound holds the index that Find finds against the wanted one (0 for none).
func wantFound(t *testing.T, s *Spool, index, want uint64) {
	t.Helper()
	got, ok := s.Find(index)
	if got.Index != want || ok != (want != 0) {
		t.Errorf("P8.3: Find(%d): %d, %v, want %d", index, got.Index, ok, want)
	}
	if want == 0 && !item.Same(got.Item, api.Item{}) {
		t.Errorf("R3: Find(%d): %+v", index, got)
	}
	for _, entry := range s.Base().List {
		if entry.Index == want && !item.Same(entry.Item, got.Item) {
			t.Errorf("P8.3: Find(%d): %+v, want %+v", index, got, entry)
		}
	}
}

// TestCopy: a spool and its copy go their own ways.
func TestCopy(t *testing.T) {
	items := []api.Item{gap(1, 1, 3), event(2, 1, 0), event(2, 2, 0), sized(1, 4, 2, 20)}
	for _, change := range []func(s *Spool) api.Errno{
		func(s *Spool) api.Errno { _, _, e := s.Put(gap(3, 1, 1)); return e },
		func(s *Spool) api.Errno { _, _, e := s.Put(event(1, 5, 0)); return e },
		func(s *Spool) api.Errno { _, _, e := s.Put(sized(1, 5, 0, 40)); return e },
		func(s *Spool) api.Errno { return s.Ack(1) },
		func(s *Spool) api.Errno { return s.Ack(4) },
	} {
		s := full(t, 5, items...)
		was := s.Base()
		one, other := s.Copy(), s.Copy()
		wantBase(t, "P8.1: a copy", one, s.Quota(), was)
		wantError(t, "P8.1: a change of a copy", change(one), api.OK)
		wantBase(t, "P8.1: what was copied", s, one.Quota(), was)
		wantError(t, "P8.1: a change of what was copied", change(s), api.OK)
		wantBase(t, "P8.1: another copy", other, s.Quota(), was)
		wantBase(t, "P8.1: a copy with the same change", s, one.Quota(), one.Base())
		if sameBase(was, s.Base()) {
			t.Error("P8.1: nothing was changed")
		}
	}
}
