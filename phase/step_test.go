package phase

import (
	"testing"

	"watchfire/api"
)

// others are states in which an alert is neither pending nor firing nor idle, those that are none among them.
func others() []api.State {
	return []api.State{api.Unknown, 4, 5, 127, 128, 254, 255}
}

// TestBegins: from every state but Pending and Firing an alert becomes pending when its condition holds, and with For 0 it fires at once, whatever its Since and its Held were.
func TestBegins(t *testing.T) {
	for _, state := range append(others(), api.Idle) {
		for _, was := range []Phase{{}, {0, 10, 12, 5}, {0, 12, 10, -5}, {0, great, great, least}, {0, great, 0, greatest}} {
			p := was
			p.State = state
			for _, now := range []uint64{0, 1, 9, 10, 11, 12, 13, 1 << 40, 1 << 63, great - 1, great} {
				for _, keep := range []uint64{0, 1, 2, 1048576, great} {
					for _, value := range []int64{9, 0, -9} {
						wantStep(t, p, Waits{0, keep}, now, true, value, Phase{api.Firing, now, now, value})
						for _, wait := range []uint64{1, 2, 3, 1048576, 1 << 63, great - 1, great} {
							wantStep(t, p, Waits{wait, keep}, now, true, value, Phase{api.Pending, now, now, value})
						}
					}
				}
			}
		}
	}
}

// TestPends: a pending alert whose condition holds stays pending until now is at least For after Since.
func TestPends(t *testing.T) {
	for _, c := range []struct {
		since, wait, now uint64
		fires            bool
	}{
		{10, 0, 9, false},
		{10, 0, 0, false},
		{10, 0, 10, true},
		{10, 0, 11, true},
		{10, 0, great, true},
		{10, 1, 9, false},
		{10, 1, 0, false},
		{10, 1, 10, false},
		{10, 1, 11, true},
		{10, 1, 12, true},
		{10, 2, 8, false},
		{10, 2, 11, false},
		{10, 2, 12, true},
		{10, 2, 13, true},
		{10, 5, 5, false},
		{10, 5, 14, false},
		{10, 5, 15, true},
		{10, 5, 16, true},
		{10, 1048576, 1048585, false},
		{10, 1048576, 1048586, true},
		{10, 1048576, 1048587, true},
		{0, 0, 0, true},
		{0, 1, 0, false},
		{0, 1, 1, true},
		{0, 2, 1, false},
		{0, 2, 2, true},
		{1 << 40, 1048576, 1<<40 + 1048575, false},
		{1 << 40, 1048576, 1<<40 + 1048576, true},

		{great, 0, great, true},
		{great, 0, great - 1, false},
		{great, 0, 0, false},
		{great, 1, great, false},
		{great, 1, 0, false},
		{great, 1, 5, false},
		{great, great, great, false},
		{great, great, great - 1, false},
		{great, great, 0, false},
		{great - 1, 1, great - 1, false},
		{great - 1, 1, great, true},
		{great - 1, 2, great, false},
		{great - 1, 3, 0, false},
		{great - 1, 3, 1, false},
		{great - 1, 3, 2, false},
		{great - 5, 5, great - 1, false},
		{great - 5, 5, great, true},
		{0, great, great - 1, false},
		{0, great, great, true},
		{1, great - 1, great - 1, false},
		{1, great - 1, great, true},
		{1, great, great, false},
		{1, great, 0, false},
		{2, great, 0, false},
		{2, great, 1, false},
		{2, great, 2, false},
		{0, 1 << 63, 1<<63 - 1, false},
		{0, 1 << 63, 1 << 63, true},
		{1 << 63, 1 << 63, 0, false},
		{1 << 63, 1 << 63, great, false},
		{1 << 63, 1<<63 - 1, great, true},
	} {
		for _, held := range []uint64{0, c.since, c.since + 1, c.now, great} {
			for _, keep := range []uint64{0, 1, 1048576, great} {
				for _, value := range []int64{7, 0, -7} {
					want := Phase{api.Pending, c.since, c.now, value}
					if c.fires {
						want = Phase{api.Firing, c.now, c.now, value}
					}
					wantStep(t, Phase{api.Pending, c.since, held, 5}, Waits{c.wait, keep}, c.now, true, value, want)
				}
			}
		}
	}
}

// TestGoesOn: a firing alert whose condition holds goes on firing since it did, whatever the waits and the times.
func TestGoesOn(t *testing.T) {
	for _, was := range []Phase{{2, 10, 12, 5}, {2, 12, 10, 5}, {2, 0, 0, 0}, {2, great, great, least}, {2, 0, great, -1}, {2, great, 0, 1}} {
		for _, now := range []uint64{0, 1, 9, 10, 11, 12, 13, 1 << 40, 1 << 63, great - 1, great} {
			for _, wait := range []uint64{0, 1, 2, 3, 1048576, great} {
				for _, keep := range []uint64{0, 1, 2, 3, 1048576, great} {
					for _, value := range []int64{greatest, 5, 0, -5, least} {
						wantStep(t, was, Waits{wait, keep}, now, true, value, Phase{api.Firing, was.Since, now, value})
					}
				}
			}
		}
	}
}

// TestIdle: an idle phase stays as it is, its value too, where the condition does not hold.
func TestIdle(t *testing.T) {
	for _, was := range []Phase{{}, {0, 10, 12, 5}, {0, 12, 10, -5}, {0, great, great, least}, {0, 0, great, greatest}} {
		for _, now := range []uint64{0, 1, 9, 10, 11, 12, 13, 1 << 40, great - 1, great} {
			for _, n := range []uint64{0, 1, 2, 1048576, great} {
				for _, value := range []int64{9, 0, -9} {
					wantStep(t, was, Waits{n, 0}, now, false, value, was)
					wantStep(t, was, Waits{0, n}, now, false, value, was)
					wantStep(t, was, Waits{n, n}, now, false, value, was)
				}
			}
		}
	}
}

// TestKeeps: a firing alert whose condition does not hold stays as it is as long as now is not before Held and less than Keep after it.
func TestKeeps(t *testing.T) {
	for _, c := range []struct {
		held, keep, now uint64
		keeps           bool
	}{
		{20, 0, 19, false},
		{20, 0, 20, false},
		{20, 0, 21, false},
		{20, 0, 0, false},
		{20, 1, 19, false},
		{20, 1, 20, true},
		{20, 1, 21, false},
		{20, 1, 22, false},
		{20, 2, 18, false},
		{20, 2, 19, false},
		{20, 2, 20, true},
		{20, 2, 21, true},
		{20, 2, 22, false},
		{20, 2, 23, false},
		{20, 5, 15, false},
		{20, 5, 24, true},
		{20, 5, 25, false},
		{20, 5, 26, false},
		{20, 1048576, 19, false},
		{20, 1048576, 1048595, true},
		{20, 1048576, 1048596, false},
		{20, 1048576, 1048597, false},
		{0, 0, 0, false},
		{0, 1, 0, true},
		{0, 1, 1, false},
		{1 << 40, 1048576, 1<<40 + 1048575, true},
		{1 << 40, 1048576, 1<<40 + 1048576, false},

		{great, 0, great, false},
		{great, 0, great - 1, false},
		{great, 1, great, true},
		{great, 1, great - 1, false},
		{great, 1, 0, false},
		{great, 5, 3, false},
		{great, 5, 4, false},
		{great, 5, great, true},
		{great, great, great, true},
		{great, great, great - 1, false},
		{great, great, 0, false},
		{great - 1, 1, great, false},
		{great - 1, 2, great, true},
		{great - 1, 3, 0, false},
		{great - 1, 3, great, true},
		{great - 5, 5, great - 1, true},
		{great - 5, 5, great, false},
		{0, great, great - 1, true},
		{0, great, great, false},
		{1, great, great, true},
		{1, great, 0, false},
		{1, great - 1, great, false},
		{1, great - 1, great - 1, true},
		{0, 1 << 63, 1<<63 - 1, true},
		{0, 1 << 63, 1 << 63, false},
		{1 << 63, 1 << 63, 0, false},
		{1 << 63, 1 << 63, great, true},
		{1 << 63, 1<<63 - 1, great, false},
	} {
		for _, since := range []uint64{0, c.held, c.held - 1, c.held + 1, c.now, c.now + 1, great} {
			for _, wait := range []uint64{0, 1, 1048576, great} {
				for _, value := range []int64{7, 0, -7} {
					p := Phase{api.Firing, since, c.held, 5}
					want := p
					if !c.keeps {
						want = Phase{api.Idle, c.now, c.held, value}
					}
					wantStep(t, p, Waits{wait, c.keep}, c.now, false, value, want)
				}
			}
		}
	}
}

// TestEnds: from Pending, and from every state that is neither idle nor firing, an alert becomes idle at once when its condition does not hold; Keep does not count.
func TestEnds(t *testing.T) {
	for _, state := range append(others(), api.Pending) {
		for _, was := range []Phase{{}, {0, 10, 12, 5}, {0, 12, 10, -5}, {0, great, great, least}, {0, 0, great, greatest}, {0, great, 0, 1}} {
			p := was
			p.State = state
			for _, now := range []uint64{0, 1, 9, 10, 11, 12, 13, 1 << 40, great - 1, great} {
				for _, n := range []uint64{0, 1, 2, 1048576, great} {
					for _, value := range []int64{9, 0, -9} {
						want := Phase{api.Idle, now, was.Held, value}
						wantStep(t, p, Waits{n, 0}, now, false, value, want)
						wantStep(t, p, Waits{0, n}, now, false, value, want)
						wantStep(t, p, Waits{n, n}, now, false, value, want)
					}
				}
			}
		}
	}
}

// TestRuns takes some steps, one after the other.
func TestRuns(t *testing.T) {
	for _, c := range []struct {
		w    Waits
		p    Phase
		l    []evaluation
		want []Phase
	}{
		// It fires at once, and ends at once.
		{Waits{0, 0}, Phase{}, []evaluation{{3, true, 5}, {3, false, 4}, {3, true, 6}, {4, true, 7}, {9, false, 0}, {10, false, 1}}, []Phase{
			{api.Firing, 3, 3, 5}, {api.Idle, 3, 3, 4}, {api.Firing, 3, 3, 6}, {api.Firing, 3, 4, 7}, {api.Idle, 9, 4, 0}, {api.Idle, 9, 4, 0},
		}},
		// What is pending begins anew where the condition did not hold between.
		{Waits{3, 2}, Phase{}, []evaluation{{1, true, 5}, {3, true, 6}, {4, false, 2}, {5, true, 7}, {7, true, 8}, {8, true, 9}}, []Phase{
			{api.Pending, 1, 1, 5}, {api.Pending, 1, 3, 6}, {api.Idle, 4, 3, 2}, {api.Pending, 5, 5, 7}, {api.Pending, 5, 7, 8}, {api.Firing, 8, 8, 9},
		}},
		// What fires is kept, held again, and kept from there.
		{Waits{0, 3}, Phase{}, []evaluation{{1, true, 5}, {2, false, 2}, {3, false, 1}, {3, true, 6}, {5, false, 2}, {6, false, -3}, {7, false, 0}}, []Phase{
			{api.Firing, 1, 1, 5}, {api.Firing, 1, 1, 5}, {api.Firing, 1, 1, 5}, {api.Firing, 1, 3, 6}, {api.Firing, 1, 3, 6}, {api.Idle, 6, 3, -3}, {api.Idle, 6, 3, -3},
		}},
		// From an alert that is known from before.
		{Waits{2, 2}, Fired(4, 9), []evaluation{{5, false, 1}, {6, false, 1}, {7, true, 8}, {9, true, 7}}, []Phase{
			{api.Firing, 4, 4, 9}, {api.Idle, 6, 4, 1}, {api.Pending, 7, 7, 8}, {api.Firing, 9, 9, 7},
		}},
		// Times that go back: what is pending waits until now is behind Since, what fires ends.
		{Waits{0, 4}, Phase{api.Pending, 10, 10, 1}, []evaluation{{8, true, 2}, {9, true, 3}, {10, true, 4}, {5, true, 5}, {4, false, 6}}, []Phase{
			{api.Pending, 10, 8, 2}, {api.Pending, 10, 9, 3}, {api.Firing, 10, 10, 4}, {api.Firing, 10, 5, 5}, {api.Idle, 4, 5, 6},
		}},
		// An unknown alert.
		{Waits{1, 0}, Phase{api.Unknown, 9, 8, 7}, []evaluation{{10, true, 1}, {11, true, 2}}, []Phase{
			{api.Pending, 10, 10, 1}, {api.Firing, 11, 11, 2},
		}},
		{Waits{1, 9}, Phase{api.Unknown, 9, 8, 7}, []evaluation{{10, false, 1}, {11, false, 2}}, []Phase{
			{api.Idle, 10, 8, 1}, {api.Idle, 10, 8, 1},
		}},
	} {
		wantRun(t, c.w, c.p, c.l, c.want)
	}
}
