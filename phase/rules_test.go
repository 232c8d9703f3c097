package phase

import (
	"math/rand"
	"testing"

	"watchfire/api"
)

// anyNumber makes a number of any length.
func anyNumber(r *rand.Rand) uint64 {
	return r.Uint64() >> r.Intn(64)
}

// anyPhase makes a phase of any state.
func anyPhase(r *rand.Rand) Phase {
	p := Phase{api.State(r.Intn(256)), anyNumber(r), anyNumber(r), int64(r.Uint64())}
	if r.Intn(2) == 0 {
		p.State = api.State(r.Intn(5))
	}
	return p
}

// TestP1 calls everything with any arguments: every call ends without a panic, and what it answers agrees with what the others answer.
func TestP1(t *testing.T) {
	r := rand.New(rand.NewSource(2))
	for range 200000 {
		p, w := anyPhase(r), Waits{anyNumber(r), anyNumber(r)}
		n := evaluation{anyNumber(r), r.Intn(2) == 0, int64(r.Uint64())}
		wantStep(t, p, w, n.now, n.holds, n.value, wantNext(p, w, n))
		q := p.Step(w, n.now, n.holds, n.value)
		if q.State > api.Firing {
			t.Fatalf("P14.2: Step(%v, %v) of %v: state %d", w, n, p, q.State)
		}
		if q.Fires() != (q.State == api.Firing) || !Fired(n.now, n.value).Fires() {
			t.Fatalf("P14.1: Fires of %v: %v", q, q.Fires())
		}
		if e := w.Check(); e != api.OK && e != api.ErrRange {
			t.Fatalf("P14.1: Check of %v: %d", w, e)
		}
	}
}

// TestR2: waits of which both are too great have the one error that there is, and Step does not ask for it.
func TestR2(t *testing.T) {
	w := Waits{1048577, great}
	wantError(t, "R2: Check of both", w.Check(), api.ErrRange)
	wantStep(t, Phase{api.Pending, 1, 1, 1}, w, 1048578, true, 2, Phase{api.Firing, 1048578, 1048578, 2})
	wantStep(t, Phase{api.Pending, 1, 1, 1}, w, 1048577, true, 2, Phase{api.Pending, 1, 1048577, 2})
	wantStep(t, Fired(1, 1), w, great, false, 2, Fired(1, 1))
	wantStep(t, Fired(0, 1), w, great, false, 2, Phase{api.Idle, great, 0, 2})
}

// TestR3: a phase is no more than what the chapter tells of it, and the zero phase is idle.
func TestR3(t *testing.T) {
	if got, want := Fired(0, 0), (Phase{State: api.Firing}); got != want {
		t.Errorf("R3: Fired(0, 0): %v, want %v", got, want)
	}
	wantStep(t, Phase{}, Waits{}, 0, true, 0, Phase{State: api.Firing})
	wantStep(t, Phase{}, Waits{}, 0, false, 5, Phase{})
	wantStep(t, Phase{State: api.Unknown}, Waits{}, 0, false, 0, Phase{})
}

// TestR6: no call changes the phase, or the waits, of which it is asked, also where they are asked for by a pointer or lie in a list.
func TestR6(t *testing.T) {
	r := rand.New(rand.NewSource(4))
	for range 20000 {
		phases := []Phase{anyPhase(r), anyPhase(r), anyPhase(r)}
		were := [3]Phase(phases)
		w := &Waits{uint64(r.Intn(4)), uint64(r.Intn(4))}
		was := *w
		p := &phases[1]
		p.Step(*w, anyNumber(r), r.Intn(2) == 0, int64(r.Uint64()))
		p.Fires()
		w.Check()
		if [3]Phase(phases) != were || *w != was {
			t.Fatalf("R6: %v, %v become %v, %v", were, was, phases, *w)
		}
	}
}

// TestR8: the same calls have the same answers, whatever is asked of other phases between them.
func TestR8(t *testing.T) {
	for seed := range int64(50) {
		var all []*rand.Rand
		for _, seed := range []int64{seed, seed, seed + 1000} {
			all = append(all, rand.New(rand.NewSource(seed)))
		}
		var those [3]Phase
		for range 200 {
			var checks [3]api.Errno
			for i, r := range all {
				w := Waits{uint64(r.Intn(4)), uint64(r.Intn(4))}
				if r.Intn(5) == 0 {
					w = Waits{anyNumber(r), anyNumber(r)}
				}
				checks[i] = w.Check()
				those[i] = those[i].Step(w, uint64(r.Intn(50)), r.Intn(2) == 0, int64(r.Intn(9)))
			}
			if those[0] != those[1] || checks[0] != checks[1] || those[0].Fires() != those[1].Fires() {
				t.Fatalf("R8: the same calls: %v and %v", those[0], those[1])
			}
		}
	}
}
