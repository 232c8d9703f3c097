package recv

import (
	"math/rand"
	"testing"

	"watchfire/api"
	"watchfire/item"
)

// came is an item that was accepted, and its number.
type came struct {
	seq uint64
	x   api.Item
}

// model is a plain list of all that was ever accepted, as it came, and how many of it were taken over.
type model struct {
	window int
	all    []came
	taken  uint64
	old    uint64
}

// find returns the item of a number that was accepted, and whether there is one.
func (m *model) find(seq uint64) (api.Item, bool) {
	for _, c := range m.all {
		if c.seq == seq {
			return item.Clone(c.x), true
		}
	}
	return api.Item{}, false
}

func (m *model) take(seq uint64, x api.Item) api.Errno {
	if _, found := m.find(seq); found || seq == 0 {
		m.old++
		return api.ErrOld
	}
	// All numbers up to the expected one were found above.
	if seq > m.taken+uint64(m.window) {
		return api.ErrWindow
	}
	if e := item.Check(x); e != api.OK {
		return e
	}
	m.all = append(m.all, came{seq, item.Clone(x)})
	return api.OK
}

func (m *model) next() api.Errno {
	if _, found := m.find(m.taken + 1); !found {
		return api.ErrNone
	}
	m.taken++
	return api.OK
}

// state works out all that a receiver should tell.
func (m *model) state() state {
	is := state{cum: m.taken, want: m.taken + 1, held: len(m.all) - int(m.taken), old: m.old}
	is.first, is.found = m.find(is.want)
	for _, c := range m.all {
		if c.seq > is.want {
			is.bits |= 1 << (c.seq - is.want - 1)
		}
	}
	return is
}

// some returns one of the values.
func some[T any](r *rand.Rand, of ...T) T {
	return of[r.Intn(len(of))]
}

// someItem returns an item, of which item.Check refuses some.
func someItem(r *rand.Rand) api.Item {
	x := item.Gap(some(r, uint8(0), 1, 31), uint64(1+r.Intn(9)), uint64(5+r.Intn(9)))
	x.IsGap = r.Intn(3) == 0
	x.Event = api.Event{Origin: uint8(r.Intn(32)), Seq: 1 + r.Uint64()%1000, Time: r.Uint64() % 1000, Rule: some(r, "load", "up", "own.down"),
		State: some(r, api.Idle, api.Firing), Prio: uint8(r.Intn(8)), Value: r.Int63()}
	if item.Own(x.Event.Rule) {
		x.Event.Own = api.OwnDown
	}
	for i := range r.Intn(4) {
		x.Event.Labels = append(x.Event.Labels, api.Pair{Key: string(rune('a' + i)), Value: some(r, "x", "y", "web-1")})
	}
	if r.Intn(8) == 0 {
		some(r, func() { x.Gap.From, x.Event.Seq = 0, 0 }, func() { x.Event.Rule = "" }, func() { x.Event.State = api.Unknown }, func() { x.Event.Own ^= 1 },
			func() { x.Event.Labels = make([]api.Pair, 9) })()
	}
	return x
}

// spoil writes over an item's labels, and over their spare capacity.
func spoil(x api.Item) {
	l := x.Event.Labels[:cap(x.Event.Labels)]
	for i := range l {
		l[i] = api.Pair{Key: "SPOILED", Value: "SPOILED"}
	}
}

// step makes a call on both, writes over what was handed in and answered, and returns the error.
func step(t *testing.T, r *rand.Rand, v *Receiver, m *model) api.Errno {
	t.Helper()
	is := m.state()
	if r.Intn(4) == 0 {
		x, _ := v.Peek()
		spoil(x)
		e, wantE := v.Next(), m.next()
		if e != wantE {
			t.Fatalf("P11.1: Next: %d, want %d, where there was %+v", e, wantE, is)
		}
		return e
	}
	in := is.want + uint64(r.Intn(m.window))
	seq := some(r, in, in, in, is.want, is.want, is.want+uint64(m.window)-1, is.want+uint64(m.window), is.want+uint64(r.Intn(70)), is.want-uint64(r.Intn(int(min(is.want, 70)))), 0, r.Uint64(), great)
	x := someItem(r)
	was, wantE := show(x), m.take(seq, x)
	e := v.Take(seq, x)
	if e != wantE {
		t.Fatalf("P11.1: Take(%d, %s): %d, want %d, where there was %+v", seq, was, e, wantE, is)
	}
	if show(x) != was {
		t.Fatalf("R6: Take changes %s into %s", was, show(x))
	}
	spoil(x)
	return e
}

// TestAnyCalls makes any calls, and holds a receiver against the model behind each.
func TestAnyCalls(t *testing.T) {
	r := rand.New(rand.NewSource(1))
	errors := map[api.Errno]int{}
	for range 600 {
		m := &model{window: some(r, 1, 2, 3, 5, 8, 64, 1+r.Intn(64))}
		v := made(t, m.window)
		for range 200 {
			errors[step(t, r, v, m)]++
			wantState(t, "P11.1, P11.2: any calls", v, m.state())
			if _, held, _ := v.Counts(); held > m.window {
				t.Errorf("P7: %d items are held in a window of %d", held, m.window)
			}
			if t.Failed() {
				return
			}
		}
	}
	for _, e := range []api.Errno{api.OK, api.ErrNone, api.ErrOld, api.ErrWindow, api.ErrRange} {
		if errors[e] < 1000 {
			t.Errorf("any calls return %d only %d times", e, errors[e])
		}
	}
}
