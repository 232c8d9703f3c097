package recv

import (
	"math"
	"math/rand"
	"testing"

	"watchfire/api"
	"watchfire/item"
)

// receivers returns receivers that hold nothing, something and as much as fits, with the expected item and without it, the zero one and nil.
func receivers(t *testing.T) []*Receiver {
	t.Helper()
	full, gappy, late := made(t, 64), behind(t, 64, 3), made(t, 5)
	for seq := uint64(1); seq <= 64; seq++ {
		takes(t, full, seq)
	}
	takes(t, gappy, 5, 7, 67)
	late.taken = api.MaxNumber - 1 // no test can make so many calls
	takes(t, late, api.MaxNumber, api.MaxNumber+2)
	one := behind(t, 1, 9)
	takes(t, one, 10)
	return []*Receiver{nil, {}, made(t, 1), made(t, 64), behind(t, 3, 100), full, gappy, late, one}
}

// oddItem returns an item of fields near the limits.
func oddItem(r *rand.Rand) api.Item {
	counts := []uint64{0, 1, 2, api.MaxNumber, api.MaxNumber + 1, great}
	x := item.Gap(some(r, uint8(0), 31, 32, 255), some(r, counts...), some(r, counts...))
	x.IsGap = r.Intn(2) == 0
	x.Event = api.Event{
		Origin: some(r, uint8(0), 31, 32, 255), Seq: some(r, counts...), Time: some(r, counts...), Rule: some(r, "a", "own.a", "", "\xff"),
		State: some(r, api.Idle, api.Firing, api.Pending, 255), Prio: some(r, uint8(0), 7, 8), Own: some(r, uint8(0), 1, 3),
		Labels: make([]api.Pair, some(r, 0, 0, 0, 1, 9, 300)),
	}
	return x
}

// TestP1 calls everything with odd arguments, on odd receivers: every call ends without a panic, and no window is exceeded.
func TestP1(t *testing.T) {
	r := rand.New(rand.NewSource(3))
	for range 200 {
		for _, v := range receivers(t) {
			for range 100 {
				want, _, _ := v.Counts()
				v.Take(some(r, 0, 1, want-1, want, want+1, want+2, want+62, want+63, want+64, api.MaxNumber, 1<<63, great-1, great), oddItem(r))
				if r.Intn(4) == 0 {
					v.Next()
				}
				if is := stateOf(v); is.held < 0 || is.held > 64 || v != nil && is.held > v.window {
					t.Fatalf("P7: %+v", is)
				}
			}
		}
	}
	for range 10000 {
		window := some(r, math.MinInt, -1, 0, 1, 64, 65, math.MaxInt, int(r.Uint64()))
		v, e := New(window)
		if (v == nil) != (e != api.OK) {
			t.Fatalf("P11.1: New(%d): %v, %d", window, v, e)
		}
	}
}

func TestR1(t *testing.T) {
	if n := math.MaxInt; uint64(n) != 1<<63-1 {
		t.Error("R1: int hasn't 64 bits")
	}
}

// refused is an item that item.Check refuses, and by which error.
type refused struct {
	about string
	x     api.Item
	e     api.Errno
}

// refusedItems returns one or more for each error of item.Check.
func refusedItems() []refused {
	event := func(change func(v *api.Event)) api.Item {
		x := numbered(1)
		change(&x.Event)
		return x
	}
	labels := func(l ...api.Pair) api.Item {
		return event(func(v *api.Event) { v.Labels = l })
	}
	a, b := api.Pair{Key: "a", Value: "x"}, api.Pair{Key: "b", Value: "x"}
	return []refused{
		{"the zero item", api.Item{}, api.ErrRange},
		{"a gap of no node", item.Gap(32, 1, 1), api.ErrRange},
		{"a gap from 0", item.Gap(1, 0, 1), api.ErrRange},
		{"a gap of nothing", item.Gap(1, 2, 1), api.ErrRange},
		{"a gap beyond 2^40", item.Gap(1, 1, api.MaxNumber+1), api.ErrRange},
		{"an event of no node", event(func(v *api.Event) { v.Origin = 32 }), api.ErrRange},
		{"an event of count 0", event(func(v *api.Event) { v.Seq = 0 }), api.ErrRange},
		{"an event beyond 2^40", event(func(v *api.Event) { v.Time = api.MaxNumber + 1 }), api.ErrRange},
		{"an event of priority 8", event(func(v *api.Event) { v.Prio = 8 }), api.ErrRange},
		{"a rule without a name", event(func(v *api.Event) { v.Rule = "" }), api.ErrName},
		{"a state that is no event's", event(func(v *api.Event) { v.State = api.Pending }), api.ErrKind},
		{"an own event of no kind", event(func(v *api.Event) { v.Own = 3 }), api.ErrKind},
		{"an own event of another rule", event(func(v *api.Event) { v.Own = api.OwnDown }), api.ErrWord},
		{"an own rule of another event", event(func(v *api.Event) { v.Rule = "own.down" }), api.ErrWord},
		{"many labels", labels(make([]api.Pair, 9)...), api.ErrMany},
		{"a label without a name", labels(api.Pair{}), api.ErrName},
		{"a label that comes twice", labels(a, a), api.ErrTwice},
		{"labels out of order", labels(b, a), api.ErrOrder},
	}
}

// TestTakeRefused: what item.Check refuses is not held, and its number may come again.
func TestTakeRefused(t *testing.T) {
	for _, c := range refusedItems() {
		wantError(t, "P4.1: "+c.about, item.Check(c.x), c.e)
		for _, seq := range []uint64{4, 5, 6, 66, 67} {
			r := behind(t, 64, 3)
			was := stateOf(r)
			for range 2 {
				wantError(t, "P11.1: Take of "+c.about, r.Take(seq, c.x), c.e)
				wantState(t, "R4: Take of "+c.about, r, was)
			}
			takes(t, r, seq)
			if _, held, old := r.Counts(); held != 1 || old != 0 {
				t.Errorf("P11.1: Take behind %s: %d are held, %d are old", c.about, held, old)
			}
		}
	}
}

// TestR2: where several errors apply, the one that is named first is told. A number that is old, or held, never lies beyond the window, so that these two never apply together.
func TestR2(t *testing.T) {
	for _, c := range refusedItems() {
		r := behind(t, 4, 3)
		takes(t, r, 4, 6)
		is := stateOf(r)
		for _, old := range []uint64{0, 1, 3, 4, 6} {
			is.old++
			wantError(t, "R2: Take of an old number, and of "+c.about, r.Take(old, c.x), api.ErrOld)
			wantState(t, "R2: Take of an old number", r, is)
		}
		for _, beyond := range []uint64{8, 9, 71, great} {
			wantError(t, "R2: Take beyond the window, and of "+c.about, r.Take(beyond, c.x), api.ErrWindow)
			wantState(t, "R4: Take beyond the window", r, is)
		}
		wantError(t, "P11.1: Take of "+c.about, r.Take(5, c.x), c.e)
		wantState(t, "R4: Take of "+c.about, r, is)
		var none *Receiver
		for _, seq := range []uint64{0, 1, great} {
			wantError(t, "R7: Take of "+c.about, none.Take(seq, c.x), api.ErrNil)
		}
	}
}

// TestR3: beside false and beside an error there is nothing; and R4: nothing is changed but what is counted.
func TestR3(t *testing.T) {
	for _, r := range receivers(t) {
		is := stateOf(r)
		ifThere := func(e api.Errno) api.Errno {
			if r == nil {
				return api.ErrNil
			}
			return e
		}
		if !is.found {
			if show(is.first) != show(api.Item{}) {
				t.Errorf("R3: Peek: %+v, false", is.first)
			}
			wantError(t, "P11.1: Next without the expected item", r.Next(), ifThere(api.ErrNone))
			wantState(t, "R4: Next", r, is)
		}
		for _, seq := range []uint64{is.want + 64, is.want + 65, great} {
			wantError(t, "P11.1: Take beyond the window", r.Take(seq, numbered(1)), ifThere(api.ErrWindow))
			wantState(t, "R4: Take beyond the window", r, is)
		}
		wantError(t, "P11.1: Take of an old number", r.Take(0, numbered(1)), ifThere(api.ErrOld))
		if r != nil {
			is.old++
		}
		wantState(t, "R4: Take of an old number", r, is)
	}
	for _, window := range []int{0, 65} {
		if r, e := New(window); r != nil || e != api.ErrWindow {
			t.Errorf("R3: New(%d): %v, %d", window, r, e)
		}
	}
}

// wholeItems returns an event, and a gap that has an event beside it, with spare capacity behind their labels.
func wholeItems() []api.Item {
	var all []api.Item
	for _, isGap := range []bool{false, true} {
		x := numbered(1)
		x.Gap = api.Gap{Origin: 9, From: 2, To: 8}
		x.IsGap = isGap
		l := make([]api.Pair, 0, 8)
		x.Event.Labels = append(l, x.Event.Labels...)
		all = append(all, x)
	}
	return all
}

// TestR6: what is held is answered as it came, whatever is done with what was handed in, or answered; and no two answers share anything.
func TestR6(t *testing.T) {
	for _, given := range wholeItems() {
		was := item.Clone(given)
		r := made(t, 4)
		wantError(t, "P11.1: Take", r.Take(1, given), api.OK)
		wantError(t, "P11.1: Take of the same item", r.Take(2, given), api.OK)
		for i, p := range given.Event.Labels[:8] {
			if i >= len(was.Event.Labels) && p != (api.Pair{}) {
				t.Errorf("R6: Take writes %v behind the labels", p)
			}
		}
		if show(given) != show(was) {
			t.Errorf("R6: Take changes its argument to %+v", given)
		}
		spoil(given)
		wantFirst(t, "R6: what was handed in is written over", r, was)
		kept, _ := r.Peek()
		x, _ := r.Peek()
		spoil(x)
		wantFirst(t, "R6: what Peek answered is written over", r, was)
		if show(kept) != show(was) {
			t.Errorf("R6: two answers share memory: %+v", kept)
		}
		wantError(t, "P11.1: Next", r.Next(), api.OK)
		wantFirst(t, "R6: the same item under another number", r, was)
		if show(kept) != show(was) {
			t.Errorf("R6: an answer goes on with its receiver: %+v", kept)
		}
		spoil(kept)
		wantFirst(t, "R6: what was answered of one taken over is written over", r, was)
		wantError(t, "P11.1: Take of what Peek answered", r.Take(3, was), api.OK)
		wantError(t, "P11.1: Next", r.Next(), api.OK)
		wantFirst(t, "R6: the next one", r, was)
	}
}

// TestR6Refused: what is refused is not kept, nor changed.
func TestR6Refused(t *testing.T) {
	for _, given := range wholeItems() {
		r := made(t, 1)
		takes(t, r, 1)
		was := show(given)
		wantError(t, "P11.1: Take of what is held", r.Take(1, given), api.ErrOld)
		wantError(t, "P11.1: Take beyond the window", r.Take(2, given), api.ErrWindow)
		if show(given) != was {
			t.Errorf("R6: Take changes its argument to %+v", given)
		}
		spoil(given)
		wantFirst(t, "R6: what was refused is written over", r, numbered(1))
	}
}

// TestR7: a nil receiver does nothing.
func TestR7(t *testing.T) {
	var r *Receiver
	for _, seq := range []uint64{0, 1, 2, 64, 65, great} {
		wantError(t, "R7: Take of a nil receiver", r.Take(seq, numbered(seq)), api.ErrNil)
		wantError(t, "R7: Take of a nil receiver, of a bad item", r.Take(seq, api.Item{}), api.ErrNil)
		wantError(t, "R7: Next of a nil receiver", r.Next(), api.ErrNil)
		wantState(t, "R7: a nil receiver", r, state{})
	}
}

// TestZero: no number lies in the window of the zero receiver.
func TestZero(t *testing.T) {
	r := &Receiver{}
	wantState(t, "the zero receiver", r, state{want: 1})
	for _, seq := range []uint64{1, 2, great} {
		wantError(t, "P11.1: Take of the zero receiver", r.Take(seq, numbered(seq)), api.ErrWindow)
	}
	wantNone(t, "the zero receiver", r)
	wantError(t, "P11.1: Take of the zero receiver, of number 0", r.Take(0, numbered(0)), api.ErrOld)
	wantState(t, "the zero receiver", r, state{want: 1, old: 1})
}

// TestR8: the same calls have the same answers, whatever is asked of other receivers between them.
func TestR8(t *testing.T) {
	for seed := range int64(20) {
		var all []*rand.Rand
		var models []*model
		var those []*Receiver
		for _, seed := range []int64{seed, seed, seed + 1000} {
			r := rand.New(rand.NewSource(seed))
			m := &model{window: 1 + r.Intn(64)}
			all, models, those = append(all, r), append(models, m), append(those, made(t, m.window))
		}
		for range 150 {
			for i, r := range those {
				step(t, all[i], r, models[i])
			}
		}
		wantState(t, "R8: the same calls", those[0], stateOf(those[1]))
	}
}
