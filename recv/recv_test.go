package recv

import (
	"fmt"
	"math"
	"slices"
	"testing"

	"watchfire/api"
	"watchfire/item"
)

// great is the greatest number.
const great = math.MaxUint64

// state is all that a receiver tells of itself.
type state struct {
	first     api.Item
	found     bool
	cum, bits uint64
	want      uint64
	held      int
	old       uint64
}

func stateOf(r *Receiver) state {
	var is state
	is.first, is.found = r.Peek()
	is.cum, is.bits = r.Ack()
	is.want, is.held, is.old = r.Counts()
	return is
}

// show prints every field, those too that item.Same passes over: an empty list is printed as nil is.
func show(of any) string {
	return fmt.Sprintf("%+v", of)
}

// wantState holds all that a receiver tells of itself against what it should tell.
func wantState(t *testing.T, about string, r *Receiver, want state) {
	t.Helper()
	if got := stateOf(r); show(got) != show(want) {
		t.Errorf("%s: %+v, want %+v", about, got, want)
	}
}

func wantError(t *testing.T, about string, got, want api.Errno) {
	t.Helper()
	if got != want {
		t.Errorf("%s: %d, want %d", about, got, want)
	}
}

// wantFirst holds what Peek returns against the item that it should return.
func wantFirst(t *testing.T, about string, r *Receiver, want api.Item) {
	t.Helper()
	if x, found := r.Peek(); !found || show(x) != show(want) {
		t.Errorf("%s: Peek: %+v, %v, want %+v", about, x, found, want)
	}
}

// wantNone looks for the expected item again and again, where it is not held.
func wantNone(t *testing.T, about string, r *Receiver) {
	t.Helper()
	was := stateOf(r)
	for range 3 {
		if x, found := r.Peek(); found || show(x) != show(api.Item{}) {
			t.Errorf("%s: Peek: %+v, %v, want none", about, x, found)
		}
		wantError(t, about+": Next", r.Next(), api.ErrNone)
		wantState(t, "R4: "+about+": Next", r, was)
	}
}

// made returns a receiver that expects number 1.
func made(t *testing.T, window int) *Receiver {
	t.Helper()
	r, e := New(window)
	if e != api.OK {
		t.Fatalf("P11.1: New(%d): %d", window, e)
	}
	return r
}

// numbered returns an item that tells its number; each third one is a gap.
func numbered(seq uint64) api.Item {
	if seq%3 == 0 {
		return item.Gap(4, 1, 1+seq%api.MaxNumber)
	}
	return item.Of(api.Event{Origin: 5, Seq: 7, Time: 8, Rule: "load", Labels: []api.Pair{{Key: "host", Value: "a"}, {Key: "job", Value: fmt.Sprint(seq % 1000)}}, State: api.Firing, Prio: 3, Value: int64(seq)})
}

// takes hands in the items of numbers that are accepted.
func takes(t *testing.T, r *Receiver, seqs ...uint64) {
	t.Helper()
	for _, seq := range seqs {
		if e := r.Take(seq, numbered(seq)); e != api.OK {
			t.Fatalf("P11.1: Take(%d): %d, where there was %+v", seq, e, stateOf(r))
		}
	}
}

// passes takes over all items that can be taken over, and returns how many there are. It holds each one against its number.
func passes(t *testing.T, r *Receiver) int {
	t.Helper()
	for many := 0; ; many++ {
		want, held, old := r.Counts()
		if _, found := r.Peek(); !found {
			wantNone(t, "P11.1: the next one is not held", r)
			return many
		}
		for range 2 {
			wantFirst(t, "P11.1: in order", r, numbered(want))
		}
		wantError(t, "P11.1: Next", r.Next(), api.OK)
		if next, holds, olds := r.Counts(); next != want+1 || holds != held-1 || olds != old {
			t.Errorf("P11.1: Next: %d, %d, %d behind %d, %d, %d", next, holds, olds, want, held, old)
		}
	}
}

// behind returns a receiver that has taken over so many items, and holds nothing.
func behind(t *testing.T, window int, taken uint64) *Receiver {
	t.Helper()
	r := made(t, window)
	for seq := uint64(1); seq <= taken; seq++ {
		takes(t, r, seq)
		wantError(t, "P11.1: Next", r.Next(), api.OK)
	}
	wantState(t, "P11.1: behind some items", r, state{cum: taken, want: taken + 1})
	return r
}

func TestNew(t *testing.T) {
	for _, c := range []struct {
		window int
		e      api.Errno
	}{
		{math.MinInt, api.ErrWindow}, {-65, api.ErrWindow}, {-64, api.ErrWindow}, {-1, api.ErrWindow}, {0, api.ErrWindow},
		{1, api.OK}, {2, api.OK}, {33, api.OK}, {63, api.OK}, {64, api.OK},
		{65, api.ErrWindow}, {128, api.ErrWindow}, {1 << 32, api.ErrWindow}, {1<<32 + 1, api.ErrWindow}, {math.MaxInt, api.ErrWindow},
	} {
		r, e := New(c.window)
		if e != c.e || (r == nil) != (e != api.OK) {
			t.Errorf("P11.1: New(%d): %v, %d, want %d", c.window, r, e, c.e)
		}
		if r != nil {
			wantState(t, "P11.1: a new receiver", r, state{want: 1})
			wantNone(t, "P11.1: a new receiver", r)
			takes(t, r, uint64(c.window))
			wantError(t, "P11.1: Take beyond the window", r.Take(uint64(c.window)+1, numbered(1)), api.ErrWindow)
		}
	}
}

// TestExample is the chapter's: after Take(2) and Take(1), Peek returns item 1, and Ack returns 0 and 1.
func TestExample(t *testing.T) {
	r := made(t, 4)
	takes(t, r, 2, 1)
	wantFirst(t, "chapter 11's example", r, numbered(1))
	if cum, bits := r.Ack(); cum != 0 || bits != 1 {
		t.Errorf("chapter 11's example: Ack: %d, %b", cum, bits)
	}
	wantState(t, "chapter 11's example", r, state{numbered(1), true, 0, 1, 1, 2, 0})
}

// TestTakeBounds hands in each number near the ends of the window, and some far from them, at every window.
func TestTakeBounds(t *testing.T) {
	for window := 1; window <= 64; window++ {
		for _, taken := range []uint64{0, 1, 2, 63, 64, 65, 130} {
			r := behind(t, window, taken)
			want, end := taken+1, taken+1+uint64(window)
			is := state{cum: taken, want: want}
			for _, seq := range []uint64{0, 1, taken, taken - min(taken, 1), taken / 2} {
				if seq < want {
					wantError(t, "P11.1: Take of an old number", r.Take(seq, numbered(seq)), api.ErrOld)
					is.old++
				}
				wantState(t, "P11.1: Take of an old number", r, is)
			}
			for _, seq := range []uint64{end, end + 1, end + 62, end + 63, end + 64, end + 65, 1 << 32, 1<<32 + want, api.MaxNumber, 1 << 63, 1<<63 + want, great - 64, great - 63, great - 1, great} {
				wantError(t, "P11.1: Take beyond the window", r.Take(seq, numbered(seq)), api.ErrWindow)
				wantState(t, "P11.1: Take beyond the window", r, is)
			}
			takes(t, r, end-1)
			is.held = 1
			if window == 1 {
				is.first, is.found = numbered(want), true
			} else {
				is.bits = 1 << (window - 2)
			}
			wantState(t, "P11.1: Take at the window's end", r, is)
			wantError(t, "P11.1: Take at the window's end, again", r.Take(end-1, numbered(end-1)), api.ErrOld)
			wantError(t, "P11.1: Take beyond the window's end", r.Take(end, numbered(end)), api.ErrWindow)
			is.old++
			wantState(t, "P11.1: Take behind the window's end", r, is)
		}
	}
}

// TestTakeMoves: the window goes on with each item that is taken over, and with no other one.
func TestTakeMoves(t *testing.T) {
	for _, window := range []int{1, 2, 3, 63, 64} {
		r := made(t, window)
		for seq := uint64(1); seq <= uint64(window); seq++ {
			takes(t, r, seq)
			wantError(t, "P11.1: Take beyond a window in which nothing is taken over", r.Take(uint64(window)+1, numbered(0)), api.ErrWindow)
		}
		for want := uint64(1); want <= 200; want++ {
			end := want + uint64(window)
			wantError(t, "P11.1: Take beyond a full window", r.Take(end, numbered(end)), api.ErrWindow)
			wantFirst(t, "P11.1: a full window", r, numbered(want))
			wantError(t, "P11.1: Next", r.Next(), api.OK)
			wantError(t, "P11.1: Take of what was taken over", r.Take(want, numbered(want)), api.ErrOld)
			wantError(t, "P11.1: Take beyond the window by one", r.Take(end+1, numbered(end+1)), api.ErrWindow)
			takes(t, r, end)
			if next, held, old := r.Counts(); next != want+1 || held != window || old != want {
				t.Errorf("P11.1: a window of %d, full again: %d, %d, %d", window, next, held, old)
			}
		}
	}
}

// TestTakeHeld hands in another item under each number that is held, and that was taken over: the first one stays.
func TestTakeHeld(t *testing.T) {
	for window := uint64(1); window <= 64; window++ {
		r := made(t, int(window))
		for seq := uint64(1); seq <= window; seq++ {
			takes(t, r, seq)
		}
		is := stateOf(r)
		for seq := uint64(1); seq <= window; seq++ {
			for _, other := range []api.Item{numbered(seq), numbered(seq + 1), item.Gap(1, 1, 1)} {
				wantError(t, "P11.1: Take of what is held", r.Take(seq, other), api.ErrOld)
				is.old++
				wantState(t, "P11.1: Take of what is held", r, is)
			}
		}
		if many := passes(t, r); many != int(window) {
			t.Errorf("P11.1: %d items are taken over, of %d", many, window)
		}
		is = state{cum: window, want: window + 1, old: is.old}
		for seq := uint64(0); seq <= window; seq++ {
			wantError(t, "P11.1: Take of what was taken over", r.Take(seq, numbered(seq+1)), api.ErrOld)
			is.old++
			wantState(t, "P11.1: Take of what was taken over", r, is)
		}
	}
}

// orders returns ways in which the numbers of a window may come.
func orders(seqs []uint64) [][]uint64 {
	turned := slices.Clone(seqs)
	slices.Reverse(turned)
	half := len(seqs) / 2
	var even, odd []uint64
	for i, seq := range seqs {
		if i%2 == 0 {
			even = append(even, seq)
		} else {
			odd = append(odd, seq)
		}
	}
	return [][]uint64{seqs, turned, slices.Concat(seqs[half:], seqs[:half]), slices.Concat(odd, even), slices.Concat(even, odd)}
}

// TestOrders sends three windows full of items in each order, once and doubled, and takes them over behind each window, or as soon as that can be done: each one is taken over once, in order.
func TestOrders(t *testing.T) {
	for window := 1; window <= 64; window++ {
		for way := range 5 {
			for _, times := range []int{1, 2} {
				for _, soon := range []bool{false, true} {
					r := made(t, window)
					many, old := 0, uint64(0)
					for part := range uint64(3) {
						var seqs []uint64
						for i := range uint64(window) {
							seqs = append(seqs, part*uint64(window)+i+1)
						}
						for _, seq := range orders(seqs)[way] {
							takes(t, r, seq)
							for range times - 1 {
								wantError(t, "P11.1: Take of what came before", r.Take(seq, numbered(seq+1)), api.ErrOld)
								old++
							}
							if soon {
								many += passes(t, r)
							}
						}
						many += passes(t, r)
					}
					if many != 3*window {
						t.Errorf("P11.1: %d items are taken over, of %d", many, 3*window)
					}
					wantState(t, "P11.1: in any order", r, state{cum: uint64(3 * window), want: uint64(3*window + 1), old: old})
				}
			}
		}
	}
}

// TestGaps leaves out one number of each window: what comes behind it is held until it comes.
func TestGaps(t *testing.T) {
	for window := uint64(1); window <= 64; window++ {
		for late := uint64(1); late <= window; late++ {
			r := made(t, int(window))
			for seq := uint64(1); seq <= window; seq++ {
				if seq != late {
					takes(t, r, seq)
				}
			}
			if many := passes(t, r); many != int(late-1) {
				t.Errorf("P11.1: %d items are taken over, of which number %d did not come", many, late)
			}
			if want, held, _ := r.Counts(); want != late || held != int(window-late) {
				t.Errorf("P11.2: Counts where %d did not come: %d, %d", late, want, held)
			}
			wantNone(t, "P11.1: a number did not come", r)
			takes(t, r, late)
			if many := passes(t, r); many != int(window-late+1) {
				t.Errorf("P11.1: %d items are taken over, of which number %d came late", many, late)
			}
			wantState(t, "P11.1: a number came late", r, state{cum: window, want: window + 1})
		}
	}
}

// TestPeekNext looks for the expected item again and again, where it is held and where it is not.
func TestPeekNext(t *testing.T) {
	r := made(t, 8)
	wantNone(t, "P11.1: nothing came", r)
	takes(t, r, 2, 3, 5)
	wantNone(t, "P11.1: the first one did not come", r)
	takes(t, r, 1)
	for want := uint64(1); want <= 3; want++ {
		for range 3 {
			wantFirst(t, "P11.1: Peek again", r, numbered(want))
		}
		wantError(t, "P11.1: Next", r.Next(), api.OK)
	}
	wantNone(t, "P11.1: number 4 did not come", r)
	wantState(t, "P11.1: number 4 did not come", r, state{cum: 3, bits: 1, want: 4, held: 1})
	takes(t, r, 4)
	wantError(t, "P11.1: Next without Peek", r.Next(), api.OK)
	wantError(t, "P11.1: Next without Peek", r.Next(), api.OK)
	wantNone(t, "P11.1: all were taken over", r)
	wantState(t, "P11.1: all were taken over", r, state{cum: 5, want: 6})
}

// TestGreatNumbers goes on near 2^40: the chapter bounds no number.
func TestGreatNumbers(t *testing.T) {
	r := made(t, 64)
	r.taken = api.MaxNumber - 2 // no test can make so many calls
	wantError(t, "P11.1: Take of an old number", r.Take(api.MaxNumber-2, numbered(1)), api.ErrOld)
	takes(t, r, api.MaxNumber+1, api.MaxNumber, api.MaxNumber-1, api.MaxNumber+62)
	wantError(t, "P11.1: Take beyond the window", r.Take(api.MaxNumber+63, numbered(1)), api.ErrWindow)
	wantState(t, "P11.1: near 2^40", r, state{numbered(api.MaxNumber - 1), true, api.MaxNumber - 2, 1<<62 | 0b11, api.MaxNumber - 1, 4, 1})
	if many := passes(t, r); many != 3 {
		t.Errorf("P11.1: %d items are taken over, of 3", many)
	}
	wantState(t, "P11.1: behind 2^40", r, state{cum: api.MaxNumber + 1, bits: 1 << 59, want: api.MaxNumber + 2, held: 1, old: 1})
}
