package item

import (
	"bytes"
	"math"
	"reflect"
	"strings"
	"testing"

	"watchfire/api"
	"watchfire/pack"
)

// great is the greatest number.
const great = math.MaxUint64

// anEvent returns an event that Check allows, with every field set.
func anEvent() api.Event {
	return api.Event{
		Origin: 5,
		Seq:    300,
		Time:   7,
		Rule:   "load",
		Labels: []api.Pair{{Key: "host", Value: "a"}, {Key: "job", Value: "web-1"}},
		State:  api.Firing,
		Prio:   3,
		Value:  -2,
	}
}

// ownEvent returns an event of a node's own that Check allows.
func ownEvent() api.Event {
	return api.Event{Origin: 2, Seq: 9, Time: 8, Rule: "own.down", Labels: []api.Pair{{Key: "node", Value: "4"}}, State: api.Firing, Prio: 7, Value: 4, Own: api.OwnDown}
}

// changed returns an event with something done to it.
func changed(change func(v *api.Event)) api.Item {
	v := anEvent()
	change(&v)
	return Of(v)
}

// manyLabels returns so many labels, in order.
func manyLabels(n int) []api.Pair {
	var l []api.Pair
	for i := range n {
		l = append(l, api.Pair{Key: string(rune('a' + i)), Value: "x"})
	}
	return l
}

func TestOwn(t *testing.T) {
	for _, c := range []struct {
		rule string
		want bool
	}{
		{"own.", true},
		{"own.evict", true},
		{"own.down", true},
		{"own..", true},
		{"own.A b", true},
		{"own." + strings.Repeat("x", 300), true},
		{"", false},
		{"own", false},
		{"ow", false},
		{"own-down", false},
		{"owner.down", false},
		{"Own.down", false},
		{" own.down", false},
		{"down.own.", false},
		{"xown.", false},
		{"load", false},
	} {
		if got := Own(c.rule); got != c.want {
			t.Errorf("P4.1: Own(%q) is %v", c.rule, got)
		}
	}
}

func TestCheckGap(t *testing.T) {
	for _, c := range []struct {
		origin   uint8
		from, to uint64
		want     api.Errno
	}{
		{3, 1, 200, api.OK},
		{0, 1, 1, api.OK},
		{31, api.MaxNumber, api.MaxNumber, api.OK},
		{31, 1, api.MaxNumber, api.OK},
		{32, 1, 1, api.ErrRange},
		{255, 1, 1, api.ErrRange},
		{0, 0, 0, api.ErrRange},
		{0, 0, 1, api.ErrRange},
		{0, 2, 1, api.ErrRange},
		{0, 200, 1, api.ErrRange},
		{0, 1, 0, api.ErrRange},
		{0, 1, api.MaxNumber + 1, api.ErrRange},
		{0, api.MaxNumber + 1, api.MaxNumber + 1, api.ErrRange},
		{0, api.MaxNumber + 1, api.MaxNumber, api.ErrRange},
		{0, 1, great, api.ErrRange},
		{0, great, great, api.ErrRange},
	} {
		x := Gap(c.origin, c.from, c.to)
		if got := Check(x); got != c.want {
			t.Errorf("P4.1: the gap of %d from %d to %d: %d, want %d", c.origin, c.from, c.to, got, c.want)
		}
		x.Event = api.Event{Origin: 99, Rule: "A b", State: 7, Own: 9, Labels: manyLabels(9)}
		if got := Check(x); got != c.want {
			t.Errorf("P4.1: the gap of %d from %d to %d, with an event: %d, want %d", c.origin, c.from, c.to, got, c.want)
		}
	}
}

// eventCase is something done to an event, and what Check says then.
type eventCase struct {
	about  string
	change func(v *api.Event)
	want   api.Errno
}

func checkEach(t *testing.T, cases []eventCase) {
	t.Helper()
	for _, c := range cases {
		x := changed(c.change)
		if got := Check(x); got != c.want {
			t.Errorf("P4.1: an event with %s: %d, want %d", c.about, got, c.want)
		}
		x.Gap = api.Gap{Origin: 99, From: 8, To: 7}
		if got := Check(x); got != c.want {
			t.Errorf("P4.1: an event with %s, and a gap: %d, want %d", c.about, got, c.want)
		}
	}
}

func TestCheckEvent(t *testing.T) {
	checkEach(t, []eventCase{
		{"nothing done to it", func(v *api.Event) {}, api.OK},
		{"no origin", func(v *api.Event) { v.Origin = 0 }, api.OK},
		{"origin 31", func(v *api.Event) { v.Origin = 31 }, api.OK},
		{"origin 32", func(v *api.Event) { v.Origin = 32 }, api.ErrRange},
		{"origin 255", func(v *api.Event) { v.Origin = 255 }, api.ErrRange},
		{"count 0", func(v *api.Event) { v.Seq = 0 }, api.ErrRange},
		{"count 1", func(v *api.Event) { v.Seq = 1 }, api.OK},
		{"count 2^40", func(v *api.Event) { v.Seq = api.MaxNumber }, api.OK},
		{"count 2^40 + 1", func(v *api.Event) { v.Seq = api.MaxNumber + 1 }, api.ErrRange},
		{"the greatest count", func(v *api.Event) { v.Seq = great }, api.ErrRange},
		{"time 0", func(v *api.Event) { v.Time = 0 }, api.OK},
		{"time 2^40", func(v *api.Event) { v.Time = api.MaxNumber }, api.OK},
		{"time 2^40 + 1", func(v *api.Event) { v.Time = api.MaxNumber + 1 }, api.ErrRange},
		{"the greatest time", func(v *api.Event) { v.Time = great }, api.ErrRange},
		{"priority 0", func(v *api.Event) { v.Prio = 0 }, api.OK},
		{"priority 7", func(v *api.Event) { v.Prio = 7 }, api.OK},
		{"priority 8", func(v *api.Event) { v.Prio = 8 }, api.ErrRange},
		{"priority 255", func(v *api.Event) { v.Prio = 255 }, api.ErrRange},
		{"the greatest number seen", func(v *api.Event) { v.Value = math.MaxInt64 }, api.OK},
		{"the lowest number seen", func(v *api.Event) { v.Value = math.MinInt64 }, api.OK},
		{"no rule", func(v *api.Event) { v.Rule = "" }, api.ErrName},
		{"a rule of 12 characters", func(v *api.Event) { v.Rule = "abcdefgh.l-1" }, api.OK},
		{"a rule of 13 characters", func(v *api.Event) { v.Rule = "abcdefgh.l-12" }, api.ErrName},
		{"a rule that begins with a digit", func(v *api.Event) { v.Rule = "1a" }, api.ErrName},
		{"a rule with an upper-case letter", func(v *api.Event) { v.Rule = "loaD" }, api.ErrName},
		{"state Idle", func(v *api.Event) { v.State = api.Idle }, api.OK},
		{"state Pending", func(v *api.Event) { v.State = api.Pending }, api.ErrKind},
		{"state Unknown", func(v *api.Event) { v.State = api.Unknown }, api.ErrKind},
		{"state 4", func(v *api.Event) { v.State = 4 }, api.ErrKind},
		{"state 255", func(v *api.Event) { v.State = 255 }, api.ErrKind},
		{"no labels", func(v *api.Event) { v.Labels = nil }, api.OK},
		{"no labels in an empty list", func(v *api.Event) { v.Labels = []api.Pair{} }, api.OK},
		{"eight labels", func(v *api.Event) { v.Labels = manyLabels(8) }, api.OK},
		{"nine labels", func(v *api.Event) { v.Labels = manyLabels(9) }, api.ErrMany},
		{"a label without a key", func(v *api.Event) { v.Labels[0].Key = "" }, api.ErrName},
		{"a label without a value", func(v *api.Event) { v.Labels[1].Value = "" }, api.ErrName},
		{"one label twice", func(v *api.Event) { v.Labels[1] = v.Labels[0] }, api.ErrTwice},
		{"labels in another order", func(v *api.Event) { v.Labels[0].Key = "x" }, api.ErrOrder},
	})
}

func TestCheckOwn(t *testing.T) {
	checkEach(t, []eventCase{
		{"its own, evicted", func(v *api.Event) { v.Own, v.Rule = api.OwnEvict, "own.evict" }, api.OK},
		{"its own, down", func(v *api.Event) { v.Own, v.Rule = api.OwnDown, "own.down" }, api.OK},
		{"its own, with a rule that is the beginning alone", func(v *api.Event) { v.Own, v.Rule = 1, "own." }, api.OK},
		{"its own of a kind that is none", func(v *api.Event) { v.Own, v.Rule = 3, "own.down" }, api.ErrKind},
		{"its own of kind 255", func(v *api.Event) { v.Own, v.Rule = 255, "own.down" }, api.ErrKind},
		{"its own, with another rule", func(v *api.Event) { v.Own = api.OwnEvict }, api.ErrWord},
		{"its own, down, with another rule", func(v *api.Event) { v.Own, v.Rule = api.OwnDown, "own" }, api.ErrWord},
		{"a rule for its own", func(v *api.Event) { v.Rule = "own.down" }, api.ErrWord},
		{"a rule for its own that is the beginning alone", func(v *api.Event) { v.Rule = "own." }, api.ErrWord},
	})
}

// TestCheckFirst: of several errors, the one that the chapter names first is told.
func TestCheckFirst(t *testing.T) {
	badOrigin := func(v *api.Event) { v.Origin = 32 }
	badSeq := func(v *api.Event) { v.Seq = 0 }
	badTime := func(v *api.Event) { v.Time = great }
	badPrio := func(v *api.Event) { v.Prio = 8 }
	badRule := func(v *api.Event) { v.Rule = "own.A" }
	badState := func(v *api.Event) { v.State = api.Pending }
	badOwn := func(v *api.Event) { v.Own = 3 }
	badWord := func(v *api.Event) { v.Own = min(v.Own+1, 3) }
	badLabels := func(v *api.Event) { v.Labels = manyLabels(9) }
	ranks := []struct {
		e       api.Errno
		changes []func(v *api.Event)
	}{
		{api.ErrRange, []func(v *api.Event){badOrigin, badSeq, badTime, badPrio}},
		{api.ErrName, []func(v *api.Event){badRule}},
		{api.ErrKind, []func(v *api.Event){badState, badOwn}},
		{api.ErrWord, []func(v *api.Event){badWord}},
		{api.ErrMany, []func(v *api.Event){badLabels}},
	}
	for i, rank := range ranks {
		for _, first := range rank.changes {
			for _, behind := range ranks[i+1:] {
				for _, second := range behind.changes {
					x := changed(func(v *api.Event) { first(v); second(v) })
					if got := Check(x); got != rank.e {
						t.Errorf("R2: P4.1: %+v: %d, want %d ahead of %d", x.Event, got, rank.e, behind.e)
					}
				}
			}
		}
	}
}

func TestOfAndGap(t *testing.T) {
	v := anEvent()
	if got := Of(v); got.IsGap || got.Gap != (api.Gap{}) || !reflect.DeepEqual(got.Event, v) {
		t.Errorf("P4.2: Of: %+v", got)
	}
	if got := Of(api.Event{}); !reflect.DeepEqual(got, api.Item{}) {
		t.Errorf("P4.2: Of the zero event: %+v", got)
	}
	want := api.Item{IsGap: true, Gap: api.Gap{Origin: 3, From: 1, To: 200}}
	if got := Gap(3, 1, 200); !reflect.DeepEqual(got, want) {
		t.Errorf("P4.2: Gap: %+v", got)
	}
	want = api.Item{IsGap: true, Gap: api.Gap{Origin: 255, From: great, To: 0}}
	if got := Gap(255, great, 0); !reflect.DeepEqual(got, want) {
		t.Errorf("P4.2: Gap that Check refuses: %+v", got)
	}
}

// both returns an item with an event and a gap, of which one counts.
func both(isGap bool) api.Item {
	return api.Item{IsGap: isGap, Event: anEvent(), Gap: api.Gap{Origin: 3, From: 10, To: 20}}
}

func TestSpan(t *testing.T) {
	for _, c := range []struct {
		x        api.Item
		origin   uint8
		from, to uint64
	}{
		{Of(anEvent()), 5, 300, 300},
		{Of(ownEvent()), 2, 9, 9},
		{Gap(3, 1, 200), 3, 1, 200},
		{Gap(31, 7, 7), 31, 7, 7},
		{both(true), 3, 10, 20},
		{both(false), 5, 300, 300},
		{api.Item{}, 0, 0, 0},
		{Gap(255, great, 0), 255, great, 0},
		{Of(api.Event{Origin: 200, Seq: great}), 200, great, great},
	} {
		if origin, from, to := Span(c.x); origin != c.origin || from != c.from || to != c.to {
			t.Errorf("P4.2: Span of %+v: %d from %d to %d", c.x, origin, from, to)
		}
	}
}

func TestTrim(t *testing.T) {
	event := Of(anEvent())
	for _, c := range []struct {
		x     api.Item
		above uint64
		want  api.Item
		ok    bool
	}{
		{event, 0, event, true},
		{event, 298, event, true},
		{event, 299, event, true},
		{event, 300, api.Item{}, false},
		{event, 301, api.Item{}, false},
		{event, great, api.Item{}, false},
		{Of(ownEvent()), 8, Of(ownEvent()), true},
		{Of(ownEvent()), 9, api.Item{}, false},
		{api.Item{}, 0, api.Item{}, false},
		{Gap(3, 10, 20), 0, Gap(3, 10, 20), true},
		{Gap(3, 10, 20), 9, Gap(3, 10, 20), true},
		{Gap(3, 10, 20), 10, Gap(3, 11, 20), true},
		{Gap(3, 10, 20), 11, Gap(3, 12, 20), true},
		{Gap(3, 10, 20), 19, Gap(3, 20, 20), true},
		{Gap(3, 10, 20), 20, api.Item{}, false},
		{Gap(3, 10, 20), 21, api.Item{}, false},
		{Gap(3, 10, 20), great, api.Item{}, false},
		{Gap(3, 7, 7), 6, Gap(3, 7, 7), true},
		{Gap(3, 7, 7), 7, api.Item{}, false},
		{Gap(3, 0, 7), 0, Gap(3, 1, 7), true},
		{Gap(99, 1, great), great - 1, Gap(99, great, great), true},
		{Gap(99, 1, great), great, api.Item{}, false},
		{Gap(3, 20, 10), 9, Gap(3, 20, 10), true},
		{Gap(3, 20, 10), 10, api.Item{}, false},
		{Gap(3, 20, 10), 15, api.Item{}, false},
		{both(false), 299, event, true},
		{both(false), 300, api.Item{}, false},
		{both(true), 9, Gap(3, 10, 20), true},
		{both(true), 15, Gap(3, 16, 20), true},
		{both(true), 20, api.Item{}, false},
	} {
		got, ok := Trim(c.x, c.above)
		if ok != c.ok || !Same(got, c.want) {
			t.Errorf("P4.2: Trim of %+v above %d: %+v, %v, want %+v, %v", c.x, c.above, got, ok, c.want, c.ok)
		}
		if !ok && !reflect.DeepEqual(got, api.Item{}) {
			t.Errorf("R3: Trim of %+v above %d: %+v beside false", c.x, c.above, got)
		}
	}
}

func TestJoin(t *testing.T) {
	event := func(seq uint64) api.Item { return Of(api.Event{Origin: 3, Seq: seq, Rule: "load"}) }
	for _, c := range []struct {
		about string
		a, b  api.Item
		want  api.Item
		ok    bool
	}{
		{"one behind the other", Gap(3, 1, 9), Gap(3, 10, 20), Gap(3, 1, 20), true},
		{"two of one count", Gap(3, 1, 1), Gap(3, 2, 2), Gap(3, 1, 2), true},
		{"of origin 0", Gap(0, 4, 4), Gap(0, 5, 9), Gap(0, 4, 9), true},
		{"up to the greatest number", Gap(3, 1, great-1), Gap(3, great, great), Gap(3, 1, great), true},
		{"with events that do not count", both(true), Gap(3, 21, 30), Gap(3, 10, 30), true},
		{"behind one with an event that does not count", Gap(3, 1, 9), both(true), Gap(3, 1, 20), true},
		{"the second first", Gap(3, 10, 20), Gap(3, 1, 9), api.Item{}, false},
		{"of two origins", Gap(3, 1, 9), Gap(4, 10, 20), api.Item{}, false},
		{"that overlap by one", Gap(3, 1, 10), Gap(3, 10, 20), api.Item{}, false},
		{"one left out between", Gap(3, 1, 8), Gap(3, 10, 20), api.Item{}, false},
		{"one within the other", Gap(3, 1, 30), Gap(3, 10, 20), api.Item{}, false},
		{"the same", Gap(3, 1, 9), Gap(3, 1, 9), api.Item{}, false},
		{"the second ends ahead of its beginning", Gap(3, 1, 9), Gap(3, 10, 9), api.Item{}, false},
		{"the second ends at 0", Gap(3, 1, 9), Gap(3, 10, 0), api.Item{}, false},
		{"the first ends at the greatest number", Gap(3, 1, great), Gap(3, 0, 5), api.Item{}, false},
		{"the first ends at the greatest number, the second at 0", Gap(3, 1, great), Gap(3, 0, 0), api.Item{}, false},
		{"a gap and an event", Gap(3, 1, 9), event(10), api.Item{}, false},
		{"an event and a gap", event(9), Gap(3, 10, 20), api.Item{}, false},
		{"two events", event(9), event(10), api.Item{}, false},
		{"an event whose gap does not count", Gap(3, 1, 9), both(false), api.Item{}, false},
		{"a gap behind an event whose gap does not count", both(false), Gap(3, 21, 30), api.Item{}, false},
		{"none", api.Item{}, api.Item{}, api.Item{}, false},
	} {
		if got, ok := Join(c.a, c.b); ok != c.ok || !reflect.DeepEqual(got, c.want) {
			t.Errorf("P4.2: Join of two %s: %+v, %v, want %+v, %v", c.about, got, ok, c.want, c.ok)
		}
	}
}

func TestLasts(t *testing.T) {
	for _, c := range []struct {
		x    api.Item
		want bool
	}{
		{Gap(3, 1, 200), true},
		{Gap(0, 0, 0), true},
		{both(true), true},
		{Of(ownEvent()), true},
		{changed(func(v *api.Event) { v.Own = api.OwnEvict }), true},
		{changed(func(v *api.Event) { v.Own = 255 }), true},
		{Of(anEvent()), false},
		{changed(func(v *api.Event) { v.Rule = "own.down" }), false},
		{changed(func(v *api.Event) { v.Prio = 7 }), false},
		{both(false), false},
		{api.Item{}, false},
		{api.Item{IsGap: true, Event: ownEvent()}, true},
	} {
		if got := Lasts(c.x); got != c.want {
			t.Errorf("P4.2: Lasts of %+v is %v", c.x, got)
		}
	}
}

// TestSame changes each field of an event and of a gap.
func TestSame(t *testing.T) {
	items := []api.Item{
		Of(anEvent()),
		changed(func(v *api.Event) { v.Origin++ }),
		changed(func(v *api.Event) { v.Seq++ }),
		changed(func(v *api.Event) { v.Time++ }),
		changed(func(v *api.Event) { v.Rule += "s" }),
		changed(func(v *api.Event) { v.Labels = nil }),
		changed(func(v *api.Event) { v.Labels = v.Labels[:1] }),
		changed(func(v *api.Event) { v.Labels[0].Key = "hosu" }),
		changed(func(v *api.Event) { v.Labels[1].Value = "web-2" }),
		changed(func(v *api.Event) { v.Labels[0], v.Labels[1] = v.Labels[1], v.Labels[0] }),
		changed(func(v *api.Event) { v.State = api.Idle }),
		changed(func(v *api.Event) { v.Prio++ }),
		changed(func(v *api.Event) { v.Value = -v.Value }),
		changed(func(v *api.Event) { v.Own++ }),
		{},
		Gap(0, 0, 0),
		Gap(3, 10, 20),
		Gap(4, 10, 20),
		Gap(3, 11, 20),
		Gap(3, 10, 21),
	}
	for i, a := range items {
		for j, b := range items {
			if got := Same(a, b); got != (i == j) {
				t.Errorf("P4.2: Same of %+v and %+v is %v", a, b, got)
			}
		}
	}
}

// TestSameIgnores: what does not count may differ.
func TestSameIgnores(t *testing.T) {
	if !Same(both(true), Gap(3, 10, 20)) || !Same(Gap(3, 10, 20), both(true)) {
		t.Error("P4.2: the event of a gap counts")
	}
	if !Same(both(false), Of(anEvent())) || !Same(Of(anEvent()), both(false)) {
		t.Error("P4.2: the gap of an event counts")
	}
	if Same(both(true), both(false)) || Same(both(false), both(true)) {
		t.Error("P4.2: an event is the same as a gap")
	}
	none := changed(func(v *api.Event) { v.Labels = nil })
	empty := changed(func(v *api.Event) { v.Labels = []api.Pair{} })
	if !Same(none, empty) || !Same(empty, none) {
		t.Error("R5: no labels are not the same as an empty list of them")
	}
}

func TestClone(t *testing.T) {
	for _, x := range []api.Item{{}, Of(anEvent()), Of(ownEvent()), Gap(3, 10, 20), both(true), both(false), Gap(255, great, 0)} {
		if got := Clone(x); !reflect.DeepEqual(got, x) || !Same(got, x) {
			t.Errorf("P4.2: Clone of %+v is %+v", x, got)
		}
	}
}

// encodings returns items and their bytes, as the chapter writes them.
func encodings() []struct {
	about string
	x     api.Item
	b     string
} {
	most := strings.Repeat("\x80", 5) + "\x20"
	return []struct {
		about string
		x     api.Item
		b     string
	}{
		{"the chapter's gap", Gap(3, 1, 200), "\x01\x03\x01\xc8\x01"},
		{"a gap of one count", Gap(0, 7, 7), "\x01\x00\x07\x07"},
		{"a gap of the greatest count", Gap(31, 300, api.MaxNumber), "\x01\x1f\xac\x02" + most},
		{"a gap with an event", both(true), "\x01\x03\x0a\x14"},
		{"an event", Of(anEvent()), "\x00\x05\xac\x02\x07\x04load\x02\x04host\x01a\x03job\x05web-1\x02\x03\x03\x00"},
		{"an event with a gap", both(false), "\x00\x05\xac\x02\x07\x04load\x02\x04host\x01a\x03job\x05web-1\x02\x03\x03\x00"},
		{"an own event", Of(ownEvent()), "\x00\x02\x09\x08\x08own.down\x01\x04node\x014\x02\x07\x08\x02"},
		{"an event without labels", Of(api.Event{Seq: 1, Rule: "a"}), "\x00\x00\x01\x00\x01a\x00\x00\x00\x00\x00"},
		{"an event of the greatest numbers", Of(api.Event{Origin: 31, Seq: api.MaxNumber, Time: api.MaxNumber, Rule: "abcdefghijkl", State: api.Firing, Prio: 7, Value: math.MinInt64}),
			"\x00\x1f" + most + most + "\x0cabcdefghijkl\x00\x02\x07" + strings.Repeat("\xff", 9) + "\x01\x00"},
		{"an event of long labels", Of(api.Event{Seq: 1, Rule: "a", Labels: []api.Pair{{Key: "abcdefgh", Value: "0123456789._-abc"}}}),
			"\x00\x00\x01\x00\x01a\x01\x08abcdefgh\x100123456789._-abc\x00\x00\x00\x00"},
		{"an event of eight labels", Of(api.Event{Seq: 1, Rule: "a", Labels: manyLabels(8)}),
			"\x00\x00\x01\x00\x01a\x08\x01a\x01x\x01b\x01x\x01c\x01x\x01d\x01x\x01e\x01x\x01f\x01x\x01g\x01x\x01h\x01x\x00\x00\x00\x00"},
	}
}

func TestEncodings(t *testing.T) {
	for _, c := range encodings() {
		if e := Check(c.x); e != api.OK {
			t.Errorf("P4.1: %s: %d", c.about, e)
		}
		if got := Encode(c.x); string(got) != c.b {
			t.Errorf("P4.3: %s is encoded as %x, want %x", c.about, got, c.b)
		}
		if got := Size(c.x); got != len(c.b) {
			t.Errorf("P4.3: the size of %s is %d, want %d", c.about, got, len(c.b))
		}
		got, e := Decode([]byte(c.b))
		if e != api.OK || !Same(got, c.x) {
			t.Errorf("P4.3: %s is decoded as %+v, %d", c.about, got, e)
		}
		if got.IsGap && !reflect.DeepEqual(got.Event, api.Event{}) || !got.IsGap && got.Gap != (api.Gap{}) {
			t.Errorf("R3: %s is decoded as %+v", c.about, got)
		}
	}
}

// TestEncodeRefused: items that Check refuses have an encoding, too, which Decode refuses.
func TestEncodeRefused(t *testing.T) {
	wide := strings.Repeat("\xff", 9) + "\x01"
	for _, c := range []struct {
		about string
		x     api.Item
		b     string
		e     api.Errno
	}{
		{"the zero item", api.Item{}, "\x00\x00\x00\x00\x00\x00\x00\x00\x00\x00", api.ErrRange},
		{"a gap of origin 255", Gap(255, 1, 1), "\x01\xff\x01\x01", api.ErrRange},
		{"a gap backwards", Gap(0, 2, 1), "\x01\x00\x02\x01", api.ErrRange},
		{"a gap from 0", Gap(0, 0, 1), "\x01\x00\x00\x01", api.ErrRange},
		{"a gap to the greatest number", Gap(0, 1, great), "\x01\x00\x01" + wide, api.ErrRange},
		{"an event of origin 32", Of(api.Event{Origin: 32, Seq: 1, Rule: "a"}), "\x00\x20\x01\x00\x01a\x00\x00\x00\x00\x00", api.ErrRange},
		{"an event of the greatest time", Of(api.Event{Seq: 1, Time: great, Rule: "a"}), "\x00\x00\x01" + wide + "\x01a\x00\x00\x00\x00\x00", api.ErrRange},
		{"priority 8", Of(api.Event{Seq: 1, Rule: "a", Prio: 8}), "\x00\x00\x01\x00\x01a\x00\x00\x08\x00\x00", api.ErrRange},
		{"no rule", Of(api.Event{Seq: 1}), "\x00\x00\x01\x00\x00\x00\x00\x00\x00\x00", api.ErrName},
		{"a rule that is no name", Of(api.Event{Seq: 1, Rule: "A"}), "\x00\x00\x01\x00\x01A\x00\x00\x00\x00\x00", api.ErrName},
		{"a rule of 13 bytes", Of(api.Event{Seq: 1, Rule: "abcdefghijklm"}), "\x00\x00\x01\x00\x0dabcdefghijklm\x00\x00\x00\x00\x00", api.ErrLong},
		{"state Pending", Of(api.Event{Seq: 1, Rule: "a", State: api.Pending}), "\x00\x00\x01\x00\x01a\x00\x01\x00\x00\x00", api.ErrKind},
		{"state Unknown", Of(api.Event{Seq: 1, Rule: "a", State: api.Unknown}), "\x00\x00\x01\x00\x01a\x00\x03\x00\x00\x00", api.ErrKind},
		{"own 3", Of(api.Event{Seq: 1, Rule: "own.a", Own: 3}), "\x00\x00\x01\x00\x05own.a\x00\x00\x00\x00\x03", api.ErrKind},
		{"own 1 of another rule", Of(api.Event{Seq: 1, Rule: "a", Own: 1}), "\x00\x00\x01\x00\x01a\x00\x00\x00\x00\x01", api.ErrWord},
		{"own 0 of an own rule", Of(api.Event{Seq: 1, Rule: "own.a"}), "\x00\x00\x01\x00\x05own.a\x00\x00\x00\x00\x00", api.ErrWord},
		{"a key of 9 bytes", Of(api.Event{Seq: 1, Rule: "a", Labels: []api.Pair{{Key: "abcdefghi", Value: "x"}}}), "\x00\x00\x01\x00\x01a\x01\x09abcdefghi\x01x\x00\x00\x00\x00", api.ErrLong},
		{"a value of 17 bytes", Of(api.Event{Seq: 1, Rule: "a", Labels: []api.Pair{{Key: "a", Value: "0123456789abcdefg"}}}), "\x00\x00\x01\x00\x01a\x01\x01a\x110123456789abcdefg\x00\x00\x00\x00", api.ErrLong},
		{"a key that is none", Of(api.Event{Seq: 1, Rule: "a", Labels: []api.Pair{{Key: "a1", Value: "x"}}}), "\x00\x00\x01\x00\x01a\x01\x02a1\x01x\x00\x00\x00\x00", api.ErrName},
		{"one label twice", Of(api.Event{Seq: 1, Rule: "a", Labels: []api.Pair{{Key: "a", Value: "x"}, {Key: "a", Value: "x"}}}), "\x00\x00\x01\x00\x01a\x02\x01a\x01x\x01a\x01x\x00\x00\x00\x00", api.ErrTwice},
		{"labels in another order", Of(api.Event{Seq: 1, Rule: "a", Labels: []api.Pair{{Key: "b", Value: "x"}, {Key: "a", Value: "x"}}}), "\x00\x00\x01\x00\x01a\x02\x01b\x01x\x01a\x01x\x00\x00\x00\x00", api.ErrOrder},
		{"nine labels", Of(api.Event{Seq: 1, Rule: "a", Labels: manyLabels(9)}),
			"\x00\x00\x01\x00\x01a\x09\x01a\x01x\x01b\x01x\x01c\x01x\x01d\x01x\x01e\x01x\x01f\x01x\x01g\x01x\x01h\x01x\x01i\x01x\x00\x00\x00\x00", api.ErrRange},
	} {
		if got := Encode(c.x); string(got) != c.b || Size(c.x) != len(c.b) {
			t.Errorf("P4.3: %s is encoded as %x, want %x", c.about, got, c.b)
		}
		if got, e := Decode([]byte(c.b)); e != c.e || !reflect.DeepEqual(got, api.Item{}) {
			t.Errorf("P4.3: %s is decoded as %+v, %d, want %d", c.about, got, e, c.e)
		}
	}
}

// TestDecodeErrors gives bytes that no item has.
func TestDecodeErrors(t *testing.T) {
	for _, c := range []struct {
		about, b string
		want     api.Errno
	}{
		{"nothing", "", api.ErrShort},
		{"neither true nor false", "\x02\x03\x01\x01", api.ErrForm},
		{"a gap whose first count takes too many bytes", "\x01\x03\x81\x00\x01", api.ErrForm},
		{"a gap whose last count is above all numbers", "\x01\x03\x01" + strings.Repeat("\xff", 10), api.ErrRange},
		{"a gap and a byte", "\x01\x03\x01\xc8\x01\x00", api.ErrRest},
		{"two gaps", "\x01\x03\x01\x01\x01\x03\x02\x02", api.ErrRest},
		{"a gap that Check refuses, and a byte", "\x01\x20\x01\x01\x00", api.ErrRange},
		{"an event and a byte", "\x00\x00\x01\x00\x01a\x00\x00\x00\x00\x00\x00", api.ErrRest},
		{"an event that Check refuses, and a byte", "\x00\x00\x01\x00\x01A\x00\x00\x00\x00\x00\x00", api.ErrName},
		{"an event of a rule that is too long, cut", "\x00\x00\x01\x00\x0da", api.ErrLong},
		{"an event of a rule that is cut", "\x00\x00\x01\x00\x0ca", api.ErrShort},
		{"an event of too many labels, cut", "\x00\x00\x01\x00\x01a\x09", api.ErrRange},
		{"an event of the greatest number of labels", "\x00\x00\x01\x00\x01a" + strings.Repeat("\xff", 9) + "\x01", api.ErrRange},
		{"an event of labels that are cut", "\x00\x00\x01\x00\x01a\x08\x01a\x01x", api.ErrShort},
		{"an event of origin 32 that is cut", "\x00\x20\x01\x00\x01a\x00\x00\x00\x00", api.ErrShort},
		{"an event whose number takes too many bytes", "\x00\x00\x01\x00\x01a\x00\x00\x00\x80\x00\x00", api.ErrForm},
	} {
		if got, e := Decode([]byte(c.b)); e != c.want || !reflect.DeepEqual(got, api.Item{}) {
			t.Errorf("P4.3: Decode of %s: %+v, %d, want %d", c.about, got, e, c.want)
		}
	}
}

// TestCut cuts each encoding at each place, and lays a byte behind it.
func TestCut(t *testing.T) {
	for _, c := range encodings() {
		for n := range len(c.b) {
			if got, e := Decode([]byte(c.b[:n])); e != api.ErrShort || !reflect.DeepEqual(got, api.Item{}) {
				t.Errorf("P4.3: %d bytes of %s: %+v, %d", n, c.about, got, e)
			}
		}
		for _, more := range []string{"\x00", "\xff", c.b} {
			if got, e := Decode([]byte(c.b + more)); e != api.ErrRest || !reflect.DeepEqual(got, api.Item{}) {
				t.Errorf("P4.3: %s and bytes behind it: %+v, %d", c.about, got, e)
			}
		}
	}
}

// TestPutAndTake puts items between other things, and takes them.
func TestPutAndTake(t *testing.T) {
	var w pack.Writer
	var want []byte
	for i, c := range encodings() {
		w.Byte(byte(i))
		Put(&w, c.x)
		want = append(append(want, byte(i)), c.b...)
	}
	if !bytes.Equal(w.Bytes(), want) {
		t.Errorf("P4.3: items one behind the other: %x, want %x", w.Bytes(), want)
	}
	r := pack.Read(want)
	for i, c := range encodings() {
		if r.Byte() != byte(i) {
			t.Fatalf("P4.3: what is ahead of %s", c.about)
		}
		if got := Take(r); !Same(got, c.x) || r.Err() != api.OK {
			t.Fatalf("P4.3: %s is taken as %+v, %d", c.about, got, r.Err())
		}
	}
	if e := r.Done(); e != api.OK {
		t.Errorf("P4.3: the end: %d", e)
	}
	if got := Take(r); !reflect.DeepEqual(got, api.Item{}) || r.Err() != api.ErrShort {
		t.Errorf("P4.3: an item behind the end: %+v, %d", got, r.Err())
	}
}

// TestTakeErrors: an error stays with the reader, and the item beside it is zero.
func TestTakeErrors(t *testing.T) {
	for _, c := range encodings() {
		r := pack.Read([]byte(c.b))
		r.Fail(api.ErrMagic)
		if got := Take(r); !reflect.DeepEqual(got, api.Item{}) || r.Err() != api.ErrMagic {
			t.Errorf("P4.3: %s of a reader that failed: %+v, %d", c.about, got, r.Err())
		}
	}
	r := pack.Read([]byte("\x01\x20\x01\x01\x01\x03\x01\x01"))
	if got := Take(r); !reflect.DeepEqual(got, api.Item{}) || r.Err() != api.ErrRange || r.Left() != 0 {
		t.Errorf("P4.3: a gap that Check refuses: %+v, %d, %d bytes left", got, r.Err(), r.Left())
	}
	if got := Take(r); !reflect.DeepEqual(got, api.Item{}) || r.Done() != api.ErrRange {
		t.Errorf("P4.3: a gap behind one that Check refuses: %+v, %d", got, r.Err())
	}
}
