package phase

import (
	"math/big"
	"math/rand"
	"testing"

	"watchfire/api"
)

// since returns now - time, as a number without a bound.
func since(time, now uint64) *big.Int {
	return new(big.Int).Sub(new(big.Int).SetUint64(now), new(big.Int).SetUint64(time))
}

// wantNext works out what Step answers, sentence by sentence of the chapter.
func wantNext(p Phase, w Waits, n evaluation) Phase {
	if n.holds {
		q := Phase{State: p.State, Since: p.Since, Held: n.now, Value: n.value}
		if p.State == api.Firing {
			return q
		}
		if p.State != api.Pending {
			q.State = api.Pending
			q.Since = n.now
		}
		gone := since(q.Since, n.now)
		if gone.Sign() >= 0 && gone.Cmp(new(big.Int).SetUint64(w.For)) >= 0 {
			q.State = api.Firing
			q.Since = n.now
		}
		return q
	}
	if p.State == api.Idle {
		return p
	}
	gone := since(p.Held, n.now)
	if p.State == api.Firing && gone.Sign() >= 0 && gone.Cmp(new(big.Int).SetUint64(w.Keep)) < 0 {
		return p
	}
	return Phase{State: api.Idle, Since: n.now, Held: p.Held, Value: n.value}
}

// numbers are times, and waits, at and beside all bounds.
func numbers() []uint64 {
	return []uint64{0, 1, 2, 3, 1048576, 1 << 40, 1<<63 - 1, 1 << 63, great - 2, great - 1, great}
}

// TestStepAll takes a step from every state at all times and with all waits at the bounds.
func TestStepAll(t *testing.T) {
	var values int64
	for _, state := range []api.State{api.Idle, api.Pending, api.Firing, api.Unknown, 4, 255} {
		for _, from := range numbers() {
			for _, held := range numbers() {
				for _, now := range numbers() {
					for _, wait := range numbers() {
						values++
						p := Phase{state, from, held, -values}
						for _, w := range []Waits{{wait, 2}, {2, wait}} {
							for _, holds := range []bool{true, false} {
								wantStep(t, p, w, now, holds, values, wantNext(p, w, evaluation{now, holds, values}))
							}
						}
					}
				}
			}
		}
	}
}

// TestStepSmall takes a step at each of some small times with each of some small waits.
func TestStepSmall(t *testing.T) {
	for state := range api.State(5) {
		for n := range uint64(6 * 6 * 6 * 6 * 6) {
			p := Phase{state, n % 6, n / 6 % 6, 8}
			w, now := Waits{n / 36 % 6, n / 216 % 6}, n/1296
			wantStep(t, p, w, now, true, 9, wantNext(p, w, evaluation{now, true, 9}))
			wantStep(t, p, w, now, false, 7, wantNext(p, w, evaluation{now, false, 7}))
		}
	}
}

// history is all evaluations of an alert that was idle, at times that do not go back. What the alert is follows from it without any phase.
type history struct {
	w Waits
	l []evaluation
}

// fires returns which steps left the alert firing: it fired ahead of the step and is held or kept, or it was held for long enough without a break.
func (h history) fires() []bool {
	var fires []bool
	for i, n := range h.l {
		fired := i > 0 && fires[i-1]
		if n.holds {
			first := i
			for first > 0 && h.l[first-1].holds {
				first--
			}
			fires = append(fires, fired || n.now-h.l[first].now >= h.w.For)
		} else {
			held := h.held(i)
			fires = append(fires, fired && n.now-h.l[held].now < h.w.Keep)
		}
	}
	return fires
}

// held returns the last step up to i in which the condition held, or -1 if there was none.
func (h history) held(i int) int {
	for i >= 0 && !h.l[i].holds {
		i--
	}
	return i
}

// phases returns the phase behind each step.
func (h history) phases() []Phase {
	var states []api.State
	for i, fires := range h.fires() {
		states = append(states, api.Idle)
		if fires {
			states[i] = api.Firing
		} else if h.l[i].holds {
			states[i] = api.Pending
		}
	}
	var l []Phase
	for i, state := range states {
		p := Phase{State: state}
		first := i // of those steps that left it in this state
		for first > 0 && states[first-1] == state {
			first--
		}
		if first > 0 || state != api.Idle {
			p.Since = h.l[first].now
		}
		held := h.held(i)
		if held >= 0 {
			p.Held = h.l[held].now
			p.Value = h.l[held].value
		}
		if first > 0 && state == api.Idle {
			p.Value = h.l[first].value
		}
		l = append(l, p)
	}
	return l
}

// TestHistories takes long runs of steps, and holds the phase behind each step against what follows from all evaluations up to it.
func TestHistories(t *testing.T) {
	r := rand.New(rand.NewSource(1))
	for range 3000 {
		h := history{w: Waits{uint64(r.Intn(6)), uint64(r.Intn(6))}}
		now := uint64(r.Intn(3))
		if r.Intn(4) == 0 {
			now = great - 1000
		}
		turns, pace := 1+r.Intn(6), 1+r.Intn(4)
		holds := r.Intn(2) == 0
		for range 100 {
			h.l = append(h.l, evaluation{now, holds, int64(r.Intn(201) - 100)})
			now += uint64(r.Intn(pace))
			if r.Intn(turns) == 0 {
				holds = !holds
			}
		}
		wantRun(t, h.w, Phase{}, h.l, h.phases())
	}
}

// TestAnyRuns takes long runs of steps at times that go back and forth, with waits that change, from any phase.
func TestAnyRuns(t *testing.T) {
	r := rand.New(rand.NewSource(3))
	for range 3000 {
		base := numbers()[r.Intn(len(numbers()))]
		p := Phase{api.State(r.Intn(5)), base + uint64(r.Intn(10)), base - uint64(r.Intn(10)), 0}
		w := Waits{}
		for range 100 {
			if r.Intn(10) == 0 {
				w = Waits{uint64(r.Intn(8)), uint64(r.Intn(8))}
			}
			n := evaluation{base + uint64(r.Intn(30)), r.Intn(2) == 0, int64(r.Uint64())}
			want := wantNext(p, w, n)
			wantStep(t, p, w, n.now, n.holds, n.value, want)
			p = p.Step(w, n.now, n.holds, n.value)
		}
	}
}
