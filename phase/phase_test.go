package phase

import (
	"math"
	"testing"

	"watchfire/api"
)

// great is the greatest time, and the greatest wait.
const great = math.MaxUint64

const (
	least    = math.MinInt64
	greatest = math.MaxInt64
)

func wantError(t *testing.T, about string, got, want api.Errno) {
	t.Helper()
	if got != want {
		t.Errorf("%s: %d, want %d", about, got, want)
	}
}

// wantStep holds Step's answer, again and again, against what it should be, and the phase that was handed in against what it was.
func wantStep(t *testing.T, p Phase, w Waits, now uint64, holds bool, value int64, want Phase) {
	t.Helper()
	given := p
	for range 2 {
		if got := given.Step(w, now, holds, value); got != want {
			t.Errorf("P14.2: Step(%v, %d, %v, %d) of %v: %v, want %v", w, now, holds, value, p, got, want)
		}
	}
	if given != p {
		t.Errorf("R6: Step(%v, %d, %v, %d) changes %v into %v", w, now, holds, value, p, given)
	}
}

// TestCheck judges waits at the bound and beside it, each alone and both.
func TestCheck(t *testing.T) {
	const ok, bounds = api.OK, api.ErrRange
	for _, c := range []struct {
		n uint64
		e api.Errno
	}{
		{0, ok}, {1, ok}, {2, ok}, {1048575, ok}, {1048576, ok},
		{1048577, bounds}, {1048578, bounds}, {1 << 21, bounds}, {1 << 32, bounds}, {1<<32 + 1, bounds}, {1 << 40, bounds},
		{1<<63 - 1, bounds}, {1 << 63, bounds}, {1<<63 + 1, bounds}, {great - 1048576, bounds}, {great - 1, bounds}, {great, bounds},
	} {
		wantError(t, "P14.1: Check of a For", Waits{For: c.n}.Check(), c.e)
		wantError(t, "P14.1: Check of a Keep", Waits{Keep: c.n}.Check(), c.e)
		wantError(t, "P14.1: Check of both", Waits{For: c.n, Keep: c.n}.Check(), c.e)
		wantError(t, "P14.1: Check of a For beside the most", Waits{For: c.n, Keep: 1048576}.Check(), c.e)
		wantError(t, "P14.1: Check of a Keep beside the most", Waits{For: 1048576, Keep: c.n}.Check(), c.e)
		wantError(t, "P14.1: Check of a For beside too much", Waits{For: c.n, Keep: 1048577}.Check(), bounds)
		wantError(t, "P14.1: Check of a Keep beside too much", Waits{For: great, Keep: c.n}.Check(), bounds)
	}
}

// TestFired makes phases of all times and values.
func TestFired(t *testing.T) {
	for _, since := range []uint64{0, 1, 2, 1048576, 1 << 40, 1<<40 + 1, 1 << 63, great - 1, great} {
		for _, value := range []int64{0, 1, -1, 7, -7, 1 << 40, greatest - 1, greatest, least + 1, least} {
			got, want := Fired(since, value), Phase{State: api.Firing, Since: since, Held: since, Value: value}
			if got != want {
				t.Errorf("P14.1: Fired(%d, %d): %v, want %v", since, value, got, want)
			}
			if !got.Fires() {
				t.Errorf("P14.1: what Fired(%d, %d) returns does not fire", since, value)
			}
		}
	}
}

// TestFires asks phases of each state, and of states that are none.
func TestFires(t *testing.T) {
	for state := range 256 {
		want := state == 2
		for _, p := range []Phase{{}, {0, 5, 3, 9}, {0, 3, 5, -9}, {0, great, great, least}} {
			p.State = api.State(state)
			if got := p.Fires(); got != want {
				t.Errorf("P14.1: Fires of %v: %v, want %v", p, got, want)
			}
		}
	}
	for state, want := range map[api.State]bool{api.Idle: false, api.Pending: false, api.Firing: true, api.Unknown: false} {
		if got := (Phase{State: state}).Fires(); got != want {
			t.Errorf("P14.1: Fires of state %d: %v, want %v", state, got, want)
		}
	}
}

// evaluation is one step's: when, whether the condition holds, and its value.
type evaluation struct {
	now   uint64
	holds bool
	value int64
}

// TestExample is the chapter's.
func TestExample(t *testing.T) {
	w := Waits{For: 2, Keep: 0}
	wantError(t, "P14.1: Check", w.Check(), api.OK)
	wantRun(t, w, Phase{}, []evaluation{{1, true, 7}, {2, true, 8}, {3, true, 9}, {4, false, 1}}, []Phase{
		{api.Pending, 1, 1, 7},
		{api.Pending, 1, 2, 8},
		{api.Firing, 3, 3, 9},
		{api.Idle, 4, 3, 1},
	})
}

// wantRun takes one step after the other, each from the phase that the one ahead of it should lead to.
func wantRun(t *testing.T, w Waits, p Phase, l []evaluation, want []Phase) {
	t.Helper()
	for i, n := range l {
		wantStep(t, p, w, n.now, n.holds, n.value, want[i])
		p = want[i]
	}
}
