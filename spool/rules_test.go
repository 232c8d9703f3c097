package spool

import (
	"math"
	"math/rand"
	"reflect"
	"slices"
	"testing"

	"watchfire/api"
	"watchfire/item"
)

// spools returns spools in which nothing, something, and as much as fits waits, one behind its last index, the zero one and nil.
func spools(t *testing.T) []*Spool {
	t.Helper()
	last, _ := Of(64, Base{Next: api.MaxNumber, Acked: api.MaxNumber - 1})
	return []*Spool{nil, {}, made(t, 64), made(t, 65536), last, of(t, 64, someBase()),
		full(t, 0, gap(1, 1, 4), event(1, 5, 0)), full(t, 0, own(1, 1, 15)), full(t, 30, event(2, 1, 0))}
}

// oddItem returns an item of fields near the limits.
func oddItem(r *rand.Rand) api.Item {
	counts := []uint64{0, 1, 2, 5, 6, 7, api.MaxNumber, api.MaxNumber + 1, great}
	x := item.Gap(some(r, uint8(0), 1, 2, 31, 32, 255), some(r, counts...), some(r, counts...))
	x.IsGap = r.Intn(2) == 0
	x.Event = api.Event{
		Origin: some(r, uint8(0), 1, 2, 31, 32, 255), Seq: some(r, counts...), Time: some(r, counts...), Rule: some(r, "a", "own.a", ""),
		State: some(r, api.Idle, api.Firing, api.Pending), Prio: some(r, uint8(0), 7, 8), Own: some(r, uint8(0), 1, 3),
		Labels: make([]api.Pair, some(r, 0, 0, 0, 1, 9)),
	}
	return x
}

// TestP1 calls everything with odd arguments, on odd spools: every call ends without a panic, and Of takes what Base returns.
func TestP1(t *testing.T) {
	r := rand.New(rand.NewSource(3))
	indexes := []uint64{0, 1, 2, 3, 4, 12, api.MaxNumber - 1, api.MaxNumber, api.MaxNumber + 1, great - 1, great}
	for range 300 {
		for _, s := range spools(t) {
			for range 30 {
				s.Put(oddItem(r))
				s.List(some(r, indexes...), some(r, math.MinInt, -1, 0, 1, math.MaxInt))
				s.Find(some(r, indexes...))
				s.High(some(r, uint8(0), 31, 32, 255))
				if r.Intn(10) == 0 {
					s.Ack(some(r, indexes...))
				}
				if _, e := Of(s.Quota(), s.Copy().Base()); (e == api.OK) != (s.Quota() >= 64) {
					t.Fatalf("P8.3: Of what Base returns: %d, of %s", e, showBase(s.Base()))
				}
			}
			if s != nil && s.Quota() > 0 {
				wantBase(t, "P1: odd calls", s, s.Quota(), s.Base())
			}
		}
	}
	for range 30000 {
		b := someBase()
		for range r.Intn(3) {
			entry := &b.List[r.Intn(len(b.List))]
			some(r, func() { entry.Index = some(r, indexes...) }, func() { entry.Item = oddItem(r) }, func() { b.Next = some(r, indexes...) },
				func() { b.Acked = some(r, indexes...) }, func() { b.Highs[r.Intn(32)] = some(r, indexes...) })()
		}
		if s, e := Of(some(r, 0, 64, 65536, great>>1), b); e == api.OK {
			wantBase(t, "P8.3: Of anything", s, s.Quota(), b)
		}
	}
}

// TestP1Great fills a spool of the greatest quota with many items, and goes on: every call ends.
func TestP1Great(t *testing.T) {
	s := made(t, api.MaxQuota)
	for seq := uint64(1); seq <= 8000; seq++ {
		origin := uint8(seq % 3)
		_, _, e := s.Put(item.Of(api.Event{Origin: origin, Seq: s.High(origin) + 1, Rule: "a", Prio: uint8(seq % 8)}))
		wantError(t, "P8.2: Put", e, api.OK)
	}
	wantOrder(t, "many items", s)
	waits, used, next, _, evicted := s.Counts()
	if waits < 5000 || used < api.MaxQuota-12 || next != 8001 || evicted == 0 {
		t.Errorf("P8.1: counts %d, %d, %d, %d", waits, used, next, evicted)
	}
	wantBase(t, "many items", of(t, api.MaxQuota, s.Base()), api.MaxQuota, s.Base())
	x := item.Of(api.Event{Origin: 9, Seq: 1, Rule: "a", Labels: make([]api.Pair, 1<<20)})
	_, _, e := s.Put(x)
	wantError(t, "P8.2: Put of very many labels", e, api.ErrMany)
	if s, e := Of(api.MaxQuota, Base{Next: 1, List: make([]Entry, api.MaxQuota+1)}); s != nil || e != api.ErrRange {
		t.Errorf("P8.3: Of very many entries: %d", e)
	}
	for index := uint64(1); index < 8001; index += 7 {
		wantError(t, "P8.3: Ack", s.Ack(index), api.OK)
	}
}

func TestR1(t *testing.T) {
	if n := math.MaxInt; uint64(n) != 1<<63-1 {
		t.Error("R1: int hasn't 64 bits")
	}
}

// TestR2: where several errors of Put apply, the one that is named first is told. (Those of Of stand in TestOfFirst, and those behind the last index in TestLastIndex.)
func TestR2(t *testing.T) {
	s := full(t, 0, gap(1, 1, 4), own(1, 5, 15))
	bad := func(x api.Item) api.Item { x.Event.Rule = "A"; return x }
	for _, c := range []struct {
		about string
		x     api.Item
		e     api.Errno
	}{
		{"a bad rule, old, without room", bad(event(1, 5, 0)), api.ErrName},
		{"a bad rule, with a jump, without room", bad(event(1, 7, 0)), api.ErrName},
		{"a gap of no counts, old", gap(1, 4, 3), api.ErrRange},
		{"old, without room", sized(1, 5, 0, 170), api.ErrOld},
		{"with a jump, without room", sized(1, 7, 0, 170), api.ErrJump},
		{"without room", sized(1, 6, 0, 170), api.ErrFull},
	} {
		_, _, e := s.Put(c.x)
		wantError(t, "R2: Put of an item "+c.about, e, c.e)
	}
	var none *Spool
	_, _, e := none.Put(api.Item{})
	wantError(t, "R2: Put of no item to no spool", e, api.ErrNil)
}

// TestR3: beside an error, or false, there is nothing at all. (What Put returns beside each error stands with that error's tests.)
func TestR3(t *testing.T) {
	s := full(t, 0, gap(1, 1, 4))
	wantError(t, "P8.3: Ack", s.Ack(1), api.OK)
	for _, index := range []uint64{0, 1} {
		if got, ok := s.Find(index); ok || !reflect.DeepEqual(got, Entry{}) {
			t.Errorf("R3: Find(%d): %+v", index, got)
		}
	}
	for _, b := range []Base{{}, {Next: 1, List: make([]Entry, 1)}, {Next: 1, Highs: [api.MaxNodes]uint64{great}}} {
		if got, e := Of(64, b); got != nil || e == api.OK {
			t.Errorf("R3: Of: %v, %d", got, e)
		}
	}
}

func TestR5(t *testing.T) {
	for _, labels := range [][]api.Pair{nil, {}} {
		for _, l := range [][]Entry{nil, {}} {
			s := of(t, 64, Base{Next: 1, List: l})
			puts(t, s, item.Of(api.Event{Seq: 1, Rule: "a", Labels: labels}))
			wantBase(t, "R5: empty lists", s, 64, Base{Next: 2, Highs: [api.MaxNodes]uint64{1}, List: []Entry{{1, event(0, 1, 0)}}})
		}
	}
}

// roomy returns labels with spare capacity, and beside them the whole list whose memory they are.
func roomy() (labels, whole []api.Pair) {
	whole = []api.Pair{{Key: "a", Value: "one"}, {Key: "b", Value: "two"}, {Key: "spare", Value: "spare"}, {Key: "spare", Value: "spare"}}
	return whole[:2], whole
}

// labelled returns an event with labels.
func labelled(seq uint64, labels []api.Pair) api.Item {
	return api.Item{Event: api.Event{Origin: 1, Seq: seq, Rule: "a", Labels: labels}}
}

// TestR6Put: an item that is put stays as it was, with what lies behind its labels, and what becomes of it later is not seen in the spool.
func TestR6Put(t *testing.T) {
	labels, whole := roomy()
	was := slices.Clone(whole)
	s := made(t, 64)
	x := labelled(1, labels)
	puts(t, s, x, labelled(2, labels))
	s.Put(labelled(9, labels))
	s.Put(labelled(1, labels))
	s.Put(own(2, 1, 64))
	inGap := gap(3, 1, 1)
	inGap.Event.Labels = labels
	puts(t, s, inGap)
	if !slices.Equal(whole, was) || !reflect.DeepEqual(x, labelled(1, labels)) {
		t.Errorf("R6: Put changes %+v", whole)
	}
	kept := s.Base()
	clear(whole)
	wantBase(t, "R6: Put keeps memory", s, 64, kept)
	if got, _ := s.Find(2); !slices.Equal(got.Item.Event.Labels, was[:2]) {
		t.Errorf("R6: Put keeps memory: %+v", got)
	}
	if got, _ := s.Find(3); len(got.Item.Event.Labels) > 0 && !slices.Equal(got.Item.Event.Labels, was[:2]) {
		t.Errorf("R6: Put keeps memory of a gap's event: %+v", got)
	}
}

// TestR6Of: contents that are handed in stay as they were, with what lies behind each list, and what becomes of them later is not seen in the spool.
func TestR6Of(t *testing.T) {
	labels, whole := roomy()
	was := slices.Clone(whole)
	all := []Entry{{1, labelled(1, labels)}, {3, labelled(2, labels)}, {99, gap(7, 7, 7)}, {99, gap(7, 7, 7)}}
	old := slices.Clone(all)
	b := Base{Next: 4, Highs: [api.MaxNodes]uint64{1: 2}, List: all[:2]}
	s := of(t, 64, b)
	other := of(t, 64, b)
	Of(64, Base{Next: 1, List: all[:3]})
	Of(65, Base{Next: 9, Acked: 1, List: all[:2]})
	kept := s.Base()
	puts(t, s, event(5, 1, 0))
	s.Put(event(5, 2, 0))
	wantError(t, "P8.3: Ack", s.Ack(4), api.OK)
	if !slices.Equal(whole, was) || !sameEntries(all, old) {
		t.Errorf("R6: a Base is changed: %+v, %s", whole, show(all))
	}
	clear(whole)
	clear(all)
	wantBase(t, "R6: Of keeps memory", other, 64, kept)
}

// spoil writes over entries, over their labels, and over the spare capacity of both.
func spoil(l []Entry) {
	for i, entry := range l {
		labels := entry.Item.Event.Labels
		for j := range labels[:cap(labels)] {
			labels[:cap(labels)][j] = api.Pair{Key: "mine", Value: "mine"}
		}
		l[i] = Entry{77, gap(7, 7, 7)}
	}
	l = l[:cap(l)]
	for i := range l {
		l[i] = Entry{77, gap(7, 7, 7)}
	}
}

// TestR6Results: what is answered is the caller's: what is done to it is seen neither in the spool, nor in its copy, nor in another answer.
func TestR6Results(t *testing.T) {
	labels, _ := roomy()
	s := made(t, 64)
	puts(t, s, labelled(1, labels), gap(2, 1, 9), labelled(2, labels))
	want := Base{Next: 4, Highs: [api.MaxNodes]uint64{1: 2, 2: 9}, List: []Entry{{1, labelled(1, labels)}, {2, gap(2, 1, 9)}, {3, labelled(2, labels)}}}
	kept := s.Base()
	copied := s.Copy()
	for _, answer := range []func(s *Spool) []Entry{
		func(s *Spool) []Entry { return s.Base().List },
		func(s *Spool) []Entry { return s.List(0, 9) },
		func(s *Spool) []Entry { return s.List(0, 1) },
		func(s *Spool) []Entry { return s.List(2, 1) },
		func(s *Spool) []Entry { return s.List(3, 1) },
		func(s *Spool) []Entry { found, _ := s.Find(3); return []Entry{found} },
		func(s *Spool) []Entry { found, _ := s.Find(1); return []Entry{found} },
	} {
		again := answer(s)
		wanted := answer(of(t, 64, want))
		for _, from := range []*Spool{s, copied} {
			spoil(answer(from))
			if !sameEntries(again, wanted) {
				t.Errorf("R6: two answers share memory: %s", show(again))
			}
			wantBase(t, "R6: an answer is changed", s, 64, want)
			wantBase(t, "R6: an answer is changed", copied, 64, want)
		}
	}
	if !sameBase(kept, want) {
		t.Errorf("R6: a Base shares memory: %s", showBase(kept))
	}
	puts(t, s, event(4, 1, 0))
	wantError(t, "P8.3: Ack", s.Ack(1), api.OK)
	if !sameBase(kept, want) {
		t.Errorf("R6: a Base goes on with its spool: %s", showBase(kept))
	}
	wantBase(t, "R6: a copy goes on with its spool", copied, 64, want)
}

// TestR6Within: of one answer no two labels share memory, though the items were put with the same ones.
func TestR6Within(t *testing.T) {
	labels, _ := roomy()
	s := made(t, 64)
	puts(t, s, labelled(1, labels), labelled(2, labels))
	for _, l := range [][]Entry{s.Base().List, s.List(0, 2)} {
		spoil(l[:1:1])
		if !item.Same(l[1].Item, labelled(2, labels)) {
			t.Errorf("R6: two items of an answer share memory: %+v", l[1])
		}
	}
}

// TestR7: a nil spool does nothing.
func TestR7(t *testing.T) {
	var s *Spool
	for _, x := range []api.Item{event(1, 1, 0), gap(1, 1, 1), {}} {
		if index, from, e := s.Put(x); index != 0 || from != 0 || e != api.ErrNil {
			t.Errorf("R7: Put to a nil spool: %d, %d, %d", index, from, e)
		}
	}
	for _, index := range []uint64{0, 1, great} {
		wantError(t, "R7: Ack of a nil spool", s.Ack(index), api.ErrNil)
		if l := s.List(index, 9); len(l) != 0 {
			t.Errorf("R7: List of a nil spool: %s", show(l))
		}
		if got, ok := s.Find(index); ok || !reflect.DeepEqual(got, Entry{}) {
			t.Errorf("R7: Find of a nil spool: %+v", got)
		}
	}
	waits, used, next, acked, evicted := s.Counts()
	if waits != 0 || used != 0 || next != 0 || acked != 0 || evicted != 0 || s.High(0) != 0 || s.High(255) != 0 || s.Quota() != 0 {
		t.Error("R7: numbers of a nil spool")
	}
	if b := s.Base(); s.Copy() != nil || !sameBase(b, Base{}) {
		t.Errorf("R7: Base of a nil spool: %s", showBase(b))
	}
}

// TestZero: the zero spool has no room, and no index.
func TestZero(t *testing.T) {
	s := &Spool{}
	for _, x := range []api.Item{event(1, 1, 0), gap(1, 1, 1)} {
		index, from, e := s.Put(x)
		if index != 0 || from != 0 || e != api.ErrFull {
			t.Errorf("P8.2: Put to the zero spool: %d, %d, %d", index, from, e)
		}
	}
	wantError(t, "P8.3: Ack of the zero spool", s.Ack(1), api.ErrRange)
	wantBase(t, "the zero spool", s, 0, Base{})
	wantBase(t, "a copy of the zero spool", s.Copy(), 0, Base{})
}

// TestR8: the same calls have the same answers, whatever is asked of other spools between them.
func TestR8(t *testing.T) {
	for seed := range int64(20) {
		r, again, other := rand.New(rand.NewSource(seed)), rand.New(rand.NewSource(seed)), rand.New(rand.NewSource(seed+1000))
		all := []*rand.Rand{r, again, other}
		var models []*model
		var those []*Spool
		for range all {
			models = append(models, &model{quota: 200, base: Base{Next: 1}})
			those = append(those, made(t, 200))
		}
		for range 100 {
			for i := range all {
				step(t, all[i], those[i], models[i])
			}
		}
		if !sameBase(those[0].Base(), those[1].Base()) {
			t.Errorf("R8: the same calls leave %s and %s", showBase(those[0].Base()), showBase(those[1].Base()))
		}
	}
}
