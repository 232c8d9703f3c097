package frame

import (
	"hash/crc32"
	"math"
	"reflect"
	"slices"
	"strings"
	"testing"

	"watchfire/api"
	"watchfire/crc"
	"watchfire/item"
)

// great is the greatest number, and over is the first one that is too great.
const (
	great = math.MaxUint64
	over  = api.MaxNumber + 1
)

// anEvent returns an event that item's Check allows, with every field set.
func anEvent() api.Event {
	return api.Event{
		Origin: 5,
		Seq:    300,
		Time:   7,
		Rule:   "load",
		Labels: []api.Pair{{Key: "host", Value: "a"}, {Key: "job", Value: "web-1"}},
		State:  api.Firing,
		Prio:   3,
		Value:  -2,
	}
}

func aData() Frame {
	return Frame{Kind: Data, From: 2, To: 1, Epoch: 9, Seq: 300, Item: item.Of(anEvent())}
}

func aGap() Frame {
	return Frame{Kind: Data, From: 0, To: 31, Epoch: 1, Seq: 1, Item: item.Gap(3, 1, 200)}
}

func anAck() Frame {
	return Frame{Kind: Ack, From: 1, To: 2, Epoch: 9, Cum: 299, Bits: 5, Life: 4}
}

func anAlive() Frame {
	return Frame{Kind: Alive, From: 2, To: 1}
}

// changed returns a frame with something done to it.
func changed(f Frame, change func(f *Frame)) Frame {
	f.Item = item.Clone(f.Item)
	change(&f)
	return f
}

// sealed returns bytes with their sum behind them, which the library makes.
func sealed(b string) []byte {
	sum := crc32.ChecksumIEEE([]byte(b))
	return append([]byte(b), byte(sum), byte(sum>>8), byte(sum>>16), byte(sum>>24))
}

// isZero holds whatever lies in a frame against nothing.
func isZero(f Frame) bool {
	return reflect.DeepEqual(f, Frame{})
}

// checkCase is something done to a frame, and what Check says then.
type checkCase struct {
	about  string
	change func(f *Frame)
	want   api.Errno
}

// checkEach asks Check, and Encode, which must say the same.
func checkEach(t *testing.T, what string, f Frame, cases []checkCase) {
	t.Helper()
	for _, c := range cases {
		x := changed(f, c.change)
		if got := Check(x); got != c.want {
			t.Errorf("P5.1: %s with %s: %d, want %d", what, c.about, got, c.want)
		}
		b, e := Encode(crc.New(), x)
		if e != c.want {
			t.Errorf("P5.2: Encode of %s with %s: %d, want %d", what, c.about, e, c.want)
		}
		if (b == nil) != (e != api.OK) {
			t.Errorf("R3: Encode of %s with %s: %x beside %d", what, c.about, b, e)
		}
	}
}

// TestCheckHead changes what frames of all kinds have.
func TestCheckHead(t *testing.T) {
	for _, f := range []Frame{aData(), aGap(), anAck(), anAlive()} {
		checkEach(t, "kind "+string('0'+rune(f.Kind)), f, []checkCase{
			{"nothing done to it", func(f *Frame) {}, api.OK},
			{"no kind", func(f *Frame) { f.Kind = 0 }, api.ErrKind},
			{"kind 4", func(f *Frame) { f.Kind = 4 }, api.ErrKind},
			{"kind 255", func(f *Frame) { f.Kind = 255 }, api.ErrKind},
			{"from 0 to 31", func(f *Frame) { f.From, f.To = 0, 31 }, api.OK},
			{"from 31 to 0", func(f *Frame) { f.From, f.To = 31, 0 }, api.OK},
			{"from 32", func(f *Frame) { f.From = 32 }, api.ErrNode},
			{"from 255", func(f *Frame) { f.From = 255 }, api.ErrNode},
			{"to 32", func(f *Frame) { f.To = 32 }, api.ErrNode},
			{"to 255", func(f *Frame) { f.To = 255 }, api.ErrNode},
			{"from 32 to 32", func(f *Frame) { f.From, f.To = 32, 32 }, api.ErrNode},
			{"from 0 to 0", func(f *Frame) { f.From, f.To = 0, 0 }, api.ErrNode},
			{"from 7 to 7", func(f *Frame) { f.From, f.To = 7, 7 }, api.ErrNode},
			{"from 31 to 31", func(f *Frame) { f.From, f.To = 31, 31 }, api.ErrNode},
			{"epoch 2^40 + 1", func(f *Frame) { f.Epoch = over }, api.ErrRange},
			{"the greatest epoch", func(f *Frame) { f.Epoch = great }, api.ErrRange},
			{"number 2^40 + 1", func(f *Frame) { f.Seq = over }, api.ErrRange},
			{"the greatest number", func(f *Frame) { f.Seq = great }, api.ErrRange},
			{"up to number 2^40 + 1", func(f *Frame) { f.Cum = over }, api.ErrRange},
			{"up to the greatest number", func(f *Frame) { f.Cum = great }, api.ErrRange},
			{"life 2^40 + 1", func(f *Frame) { f.Life = over }, api.ErrRange},
			{"the greatest life", func(f *Frame) { f.Life = great }, api.ErrRange},
		})
	}
}

func TestCheckData(t *testing.T) {
	for _, f := range []Frame{aData(), aGap()} {
		checkEach(t, "data", f, []checkCase{
			{"epoch 1", func(f *Frame) { f.Epoch = 1 }, api.OK},
			{"epoch 2^40", func(f *Frame) { f.Epoch = api.MaxNumber }, api.OK},
			{"number 1", func(f *Frame) { f.Seq = 1 }, api.OK},
			{"number 2^40", func(f *Frame) { f.Seq = api.MaxNumber }, api.OK},
			{"no epoch", func(f *Frame) { f.Epoch = 0 }, api.ErrRange},
			{"number 0", func(f *Frame) { f.Seq = 0 }, api.ErrRange},
			{"neither epoch nor number", func(f *Frame) { f.Epoch, f.Seq = 0, 0 }, api.ErrRange},
			{"what came", func(f *Frame) { f.Cum = 1 }, api.ErrRange},
			{"bits", func(f *Frame) { f.Bits = 1 }, api.ErrRange},
			{"the highest bit", func(f *Frame) { f.Bits = 1 << 63 }, api.ErrRange},
			{"a life", func(f *Frame) { f.Life = 1 }, api.ErrRange},
		})
	}
	checkEach(t, "data", aData(), []checkCase{
		{"no item", func(f *Frame) { f.Item = api.Item{} }, api.ErrRange},
		{"an event of origin 32", func(f *Frame) { f.Item.Event.Origin = 32 }, api.ErrRange},
		{"an event of no name", func(f *Frame) { f.Item.Event.Rule = "A" }, api.ErrName},
		{"an event that is pending", func(f *Frame) { f.Item.Event.State = api.Pending }, api.ErrKind},
		{"an own event of another rule", func(f *Frame) { f.Item.Event.Own = api.OwnDown }, api.ErrWord},
		{"one label twice", func(f *Frame) { f.Item.Event.Labels[1] = f.Item.Event.Labels[0] }, api.ErrTwice},
		{"labels in another order", func(f *Frame) { slices.Reverse(f.Item.Event.Labels) }, api.ErrOrder},
		{"nine labels", func(f *Frame) { f.Item.Event.Labels = make([]api.Pair, 9) }, api.ErrMany},
		{"no labels", func(f *Frame) { f.Item.Event.Labels = nil }, api.OK},
		{"an event with a gap that does not count", func(f *Frame) { f.Item.Gap = api.Gap{Origin: 99, From: 8, To: 7} }, api.OK},
		{"a gap that is no gap", func(f *Frame) { f.Item = item.Gap(3, 2, 1) }, api.ErrRange},
		{"a gap of origin 32", func(f *Frame) { f.Item = item.Gap(32, 1, 1) }, api.ErrRange},
		{"a gap with an event that does not count", func(f *Frame) {
			f.Item.IsGap, f.Item.Event.Rule, f.Item.Gap = true, "A", api.Gap{Origin: 3, From: 1, To: 1}
		}, api.OK},
	})
}

func TestCheckAck(t *testing.T) {
	checkEach(t, "an acknowledgement", anAck(), []checkCase{
		{"epoch 1", func(f *Frame) { f.Epoch = 1 }, api.OK},
		{"epoch 2^40", func(f *Frame) { f.Epoch = api.MaxNumber }, api.OK},
		{"life 1", func(f *Frame) { f.Life = 1 }, api.OK},
		{"life 2^40", func(f *Frame) { f.Life = api.MaxNumber }, api.OK},
		{"nothing that came", func(f *Frame) { f.Cum, f.Bits = 0, 0 }, api.OK},
		{"up to number 2^40", func(f *Frame) { f.Cum = api.MaxNumber }, api.OK},
		{"all bits", func(f *Frame) { f.Bits = great }, api.OK},
		{"no epoch", func(f *Frame) { f.Epoch = 0 }, api.ErrRange},
		{"no life", func(f *Frame) { f.Life = 0 }, api.ErrRange},
		{"neither epoch nor life", func(f *Frame) { f.Epoch, f.Life = 0, 0 }, api.ErrRange},
		{"a number", func(f *Frame) { f.Seq = 1 }, api.ErrRange},
		{"number 2^40", func(f *Frame) { f.Seq = api.MaxNumber }, api.ErrRange},
	})
	checkEach(t, "an acknowledgement", anAck(), withItems())
}

func TestCheckAlive(t *testing.T) {
	checkEach(t, "a keep-alive", anAlive(), []checkCase{
		{"an epoch", func(f *Frame) { f.Epoch = 1 }, api.ErrRange},
		{"a number", func(f *Frame) { f.Seq = 1 }, api.ErrRange},
		{"what came", func(f *Frame) { f.Cum = 1 }, api.ErrRange},
		{"a bit", func(f *Frame) { f.Bits = 1 }, api.ErrRange},
		{"the highest bit", func(f *Frame) { f.Bits = 1 << 63 }, api.ErrRange},
		{"a life", func(f *Frame) { f.Life = 1 }, api.ErrRange},
		{"what an acknowledgement has", func(f *Frame) { f.Epoch, f.Cum, f.Life = 9, 299, 4 }, api.ErrRange},
	})
	checkEach(t, "a keep-alive", anAlive(), withItems())
}

// withItems lays items into a frame that has none.
func withItems() []checkCase {
	return []checkCase{
		{"an event", func(f *Frame) { f.Item = item.Of(anEvent()) }, api.ErrRange},
		{"a gap", func(f *Frame) { f.Item = item.Gap(3, 1, 200) }, api.ErrRange},
		{"a gap of nothing", func(f *Frame) { f.Item.IsGap = true }, api.ErrRange},
		{"an origin", func(f *Frame) { f.Item.Event.Origin = 1 }, api.ErrRange},
		{"an event's count", func(f *Frame) { f.Item.Event.Seq = 1 }, api.ErrRange},
		{"a time", func(f *Frame) { f.Item.Event.Time = 1 }, api.ErrRange},
		{"a rule", func(f *Frame) { f.Item.Event.Rule = "A" }, api.ErrRange},
		{"a label", func(f *Frame) { f.Item.Event.Labels = make([]api.Pair, 1) }, api.ErrRange},
		{"a state", func(f *Frame) { f.Item.Event.State = api.Pending }, api.ErrRange},
		{"a priority", func(f *Frame) { f.Item.Event.Prio = 1 }, api.ErrRange},
		{"a number seen", func(f *Frame) { f.Item.Event.Value = -1 }, api.ErrRange},
		{"an own event", func(f *Frame) { f.Item.Event.Own = 1 }, api.ErrRange},
		{"an empty list of labels", func(f *Frame) { f.Item.Event.Labels = []api.Pair{} }, api.OK},
		{"a gap that does not count", func(f *Frame) { f.Item.Gap = api.Gap{Origin: 3, From: 1, To: 200} }, api.OK},
	}
}

// TestCheckFirst: of several errors, the one that the chapter names first is told.
func TestCheckFirst(t *testing.T) {
	badKind := func(f *Frame) { f.Kind = 4 }
	badFrom := func(f *Frame) { f.From = 32 }
	badTo := func(f *Frame) { f.To = 255 }
	badBoth := func(f *Frame) { f.From = f.To }
	badEpoch := func(f *Frame) { f.Epoch = over }
	noEpoch := func(f *Frame) { f.Epoch = 0 }
	badBits := func(f *Frame) { f.Bits = 1 }
	badLife := func(f *Frame) { f.Life = 1 }
	badRule := func(f *Frame) { f.Item.Event.Rule = "A" }
	ranks := []struct {
		e       api.Errno
		changes []func(f *Frame)
	}{
		{api.ErrKind, []func(f *Frame){badKind}},
		{api.ErrNode, []func(f *Frame){badFrom, badTo, badBoth}},
		{api.ErrRange, []func(f *Frame){badEpoch, noEpoch, badBits, badLife}},
		{api.ErrName, []func(f *Frame){badRule}},
	}
	for i, rank := range ranks {
		for _, first := range rank.changes {
			for _, behind := range ranks[i+1:] {
				for _, second := range behind.changes {
					f := changed(aData(), func(f *Frame) { second(f); first(f) })
					if got := Check(f); got != rank.e {
						t.Errorf("R2: P5.1: %+v: %d, want %d ahead of %d", f, got, rank.e, behind.e)
					}
				}
			}
		}
	}
}

// encoding is a frame, and its bytes ahead of the sum.
type encoding struct {
	about string
	f     Frame
	b     string
}

// encodings returns frames and their bytes, as the chapter writes them.
func encodings() []encoding {
	const most = "\x80\x80\x80\x80\x80\x20"
	event := "\x00\x05\xac\x02\x07\x04load\x02\x04host\x01a\x03job\x05web-1\x02\x03\x03\x00"
	withGap := aData()
	withGap.Item.Gap = api.Gap{Origin: 3, From: 1, To: 200}
	withEvent := aGap()
	withEvent.Item.Event = anEvent()
	return []encoding{
		{"the chapter's keep-alive", anAlive(), "\xb7\x03\x02\x01"},
		{"a keep-alive from 0", Frame{Kind: Alive, From: 0, To: 31}, "\xb7\x03\x00\x1f"},
		{"a keep-alive from 31", Frame{Kind: Alive, From: 31, To: 0}, "\xb7\x03\x1f\x00"},
		{"an event", aData(), "\xb7\x01\x02\x01\x09\xac\x02" + event},
		{"an event with a gap that does not count", withGap, "\xb7\x01\x02\x01\x09\xac\x02" + event},
		{"an event of the greatest numbers", changed(aData(), func(f *Frame) { f.Epoch, f.Seq = api.MaxNumber, api.MaxNumber }), "\xb7\x01\x02\x01" + most + most + event},
		{"a gap", aGap(), "\xb7\x01\x00\x1f\x01\x01\x01\x03\x01\xc8\x01"},
		{"a gap with an event that does not count", withEvent, "\xb7\x01\x00\x1f\x01\x01\x01\x03\x01\xc8\x01"},
		{"an acknowledgement", anAck(), "\xb7\x02\x01\x02\x09\xab\x02\x05\x04"},
		{"an acknowledgement of nothing", Frame{Kind: Ack, From: 1, To: 2, Epoch: 1, Life: 1}, "\xb7\x02\x01\x02\x01\x00\x00\x01"},
		{"an acknowledgement of the greatest numbers", Frame{Kind: Ack, From: 31, To: 30, Epoch: api.MaxNumber, Cum: api.MaxNumber, Bits: great, Life: api.MaxNumber},
			"\xb7\x02\x1f\x1e" + most + most + strings.Repeat("\xff", 9) + "\x01" + most},
		{"an acknowledgement of four different numbers", Frame{Kind: Ack, From: 1, To: 2, Epoch: 3, Cum: 4, Bits: 1 << 63, Life: 6},
			"\xb7\x02\x01\x02\x03\x04" + strings.Repeat("\x80", 9) + "\x01\x06"},
	}
}

func TestEncodings(t *testing.T) {
	table := crc.New()
	for _, c := range encodings() {
		if e := Check(c.f); e != api.OK {
			t.Errorf("P5.1: %s: %d", c.about, e)
		}
		want := sealed(c.b)
		if got, e := Encode(table, c.f); e != api.OK || !slices.Equal(got, want) {
			t.Errorf("P5.2: %s is encoded as %x, %d, want %x", c.about, got, e, want)
		}
		got, e := Decode(table, want)
		if e != api.OK || !Same(got, c.f) {
			t.Errorf("P5.2: %s is decoded as %+v, %d", c.about, got, e)
		}
		if got.Item.IsGap && !reflect.DeepEqual(got.Item.Event, api.Event{}) || !got.Item.IsGap && got.Item.Gap != (api.Gap{}) {
			t.Errorf("R3: %s is decoded as %+v", c.about, got)
		}
	}
}

// TestExample writes the sum out, too.
func TestExample(t *testing.T) {
	want := "\xb7\x03\x02\x01\x72\x45\x96\xe6"
	if got, e := Encode(crc.New(), anAlive()); e != api.OK || string(got) != want {
		t.Errorf("P5.2: a keep-alive is encoded as %x, %d", got, e)
	}
	if got, e := Decode(crc.New(), []byte(want)); e != api.OK || !Same(got, anAlive()) {
		t.Errorf("P5.2: a keep-alive is decoded as %+v, %d", got, e)
	}
}

// refuse gives bytes to Decode, which must answer an error and nothing else.
func refuse(t *testing.T, about string, b []byte, want api.Errno) {
	t.Helper()
	if got, e := Decode(crc.New(), b); e != want || !isZero(got) {
		t.Errorf("P5.2: Decode of %s, %x: %+v, %d, want %d", about, b, got, e, want)
	}
}

// TestDecodeRefuses gives bytes that are sealed right, but are no frame.
func TestDecodeRefuses(t *testing.T) {
	const wide = "\xff\xff\xff\xff\xff\xff\xff\xff\xff\x01"
	const above = "\x81\x80\x80\x80\x80\x20" // 2^40 + 1
	const gap = "\x01\x03\x01\x01"
	for _, c := range []struct {
		about, b string
		want     api.Errno
	}{
		{"first byte b6", "\xb6\x03\x02\x01", api.ErrMagic},
		{"first byte 0", "\x00\x03\x02\x01", api.ErrMagic},
		{"first byte 37", "\x37\x03\x02\x01", api.ErrMagic},
		{"the first byte left out", "\x03\x02\x01\x00", api.ErrMagic},
		{"kind 0", "\xb7\x00\x02\x01", api.ErrKind},
		{"kind 4", "\xb7\x04\x02\x01", api.ErrKind},
		{"kind 255", "\xb7\xff\x02\x01", api.ErrKind},
		{"kind 0 and bytes", "\xb7\x00\x02\x01\x01", api.ErrRest},
		{"kind 4 and a gap", "\xb7\x04\x02\x01\x01\x01" + gap, api.ErrRest},
		{"a keep-alive from 32", "\xb7\x03\x20\x01", api.ErrNode},
		{"a keep-alive to 32", "\xb7\x03\x01\x20", api.ErrNode},
		{"a keep-alive to itself", "\xb7\x03\x01\x01", api.ErrNode},
		{"a keep-alive and a byte", "\xb7\x03\x02\x01\x00", api.ErrRest},
		{"two keep-alives", "\xb7\x03\x02\x01\xb7\x03\x02\x01", api.ErrRest},
		{"an acknowledgement of nothing at all", "\xb7\x02\x01\x02", api.ErrShort},
		{"an acknowledgement without a life", "\xb7\x02\x01\x02\x01\x00\x00", api.ErrShort},
		{"an acknowledgement and a byte", "\xb7\x02\x01\x02\x01\x00\x00\x01\x00", api.ErrRest},
		{"an acknowledgement of epoch 0", "\xb7\x02\x01\x02\x00\x00\x00\x01", api.ErrRange},
		{"an acknowledgement of life 0", "\xb7\x02\x01\x02\x01\x00\x00\x00", api.ErrRange},
		{"an acknowledgement of an epoch above 2^40", "\xb7\x02\x01\x02" + above + "\x00\x00\x01", api.ErrRange},
		{"an acknowledgement up to a number above 2^40", "\xb7\x02\x01\x02\x01" + above + "\x00\x01", api.ErrRange},
		{"an acknowledgement of a life above 2^40", "\xb7\x02\x01\x02\x01\x00\x00" + wide, api.ErrRange},
		{"an acknowledgement of an epoch in too many bytes", "\xb7\x02\x01\x02\x81\x00\x00\x00\x01", api.ErrForm},
		{"an acknowledgement of bits in too many bytes", "\xb7\x02\x01\x02\x01\x00\x80\x00\x01", api.ErrForm},
		{"an acknowledgement of bits above all numbers", "\xb7\x02\x01\x02\x01\x00" + strings.Repeat("\xff", 10) + "\x01", api.ErrRange},
		{"data of nothing at all", "\xb7\x01\x02\x01", api.ErrShort},
		{"data without an item", "\xb7\x01\x02\x01\x01\x01", api.ErrShort},
		{"data and a byte", "\xb7\x01\x02\x01\x01\x01" + gap + "\x00", api.ErrRest},
		{"data of two items", "\xb7\x01\x02\x01\x01\x01" + gap + gap, api.ErrRest},
		{"data of epoch 0", "\xb7\x01\x02\x01\x00\x01" + gap, api.ErrRange},
		{"data of number 0", "\xb7\x01\x02\x01\x01\x00" + gap, api.ErrRange},
		{"data of an epoch above 2^40", "\xb7\x01\x02\x01" + above + "\x01" + gap, api.ErrRange},
		{"data of a number above 2^40", "\xb7\x01\x02\x01\x01" + wide + gap, api.ErrRange},
		{"data to itself", "\xb7\x01\x02\x02\x01\x01" + gap, api.ErrNode},
		{"data of an item that is neither", "\xb7\x01\x02\x01\x01\x01\x02\x03\x01\x01", api.ErrForm},
		{"data of a gap of origin 32", "\xb7\x01\x02\x01\x01\x01\x01\x20\x01\x01", api.ErrRange},
		{"data of a gap backwards", "\xb7\x01\x02\x01\x01\x01\x01\x03\x02\x01", api.ErrRange},
		{"data of the zero event", "\xb7\x01\x02\x01\x01\x01\x00\x00\x00\x00\x00\x00\x00\x00\x00\x00", api.ErrRange},
		{"data of an event of no name", "\xb7\x01\x02\x01\x01\x01\x00\x00\x01\x00\x01A\x00\x00\x00\x00\x00", api.ErrName},
		{"data of an event that is pending", "\xb7\x01\x02\x01\x01\x01\x00\x00\x01\x00\x01a\x00\x01\x00\x00\x00", api.ErrKind},
		{"data of an own event of another rule", "\xb7\x01\x02\x01\x01\x01\x00\x00\x01\x00\x01a\x00\x00\x00\x00\x01", api.ErrWord},
		{"data of a rule that is too long", "\xb7\x01\x02\x01\x01\x01\x00\x00\x01\x00\x0dabcdefghijklm\x00\x00\x00\x00\x00", api.ErrLong},
		{"data of one label twice", "\xb7\x01\x02\x01\x01\x01\x00\x00\x01\x00\x01a\x02\x01a\x01x\x01a\x01x\x00\x00\x00\x00", api.ErrTwice},
		{"data of labels in another order", "\xb7\x01\x02\x01\x01\x01\x00\x00\x01\x00\x01a\x02\x01b\x01x\x01a\x01x\x00\x00\x00\x00", api.ErrOrder},
	} {
		refuse(t, c.about, sealed(c.b), c.want)
	}
}

// TestDecodeFirst: of several errors, the one that the chapter names first is told.
func TestDecodeFirst(t *testing.T) {
	for _, c := range []struct {
		about string
		b     []byte
		want  api.Errno
	}{
		{"too few bytes, of which the last four are no sum", []byte("\xb7\x03\x02\x01\x00\x00\x00"), api.ErrShort},
		{"too few bytes, sealed right, the first one wrong", sealed("\x00\x03\x02"), api.ErrShort},
		{"a wrong sum, a wrong first byte", []byte("\x00\x03\x02\x01\x00\x00\x00\x00"), api.ErrSum},
		{"a wrong sum, a wrong kind", []byte("\xb7\x04\x02\x01\x00\x00\x00\x00"), api.ErrSum},
		{"a wrong first byte, an item cut", sealed("\xb6\x01\x02\x01\x01\x01\x01"), api.ErrMagic},
		{"a wrong first byte, bytes left", sealed("\xb6\x03\x02\x01\x00"), api.ErrMagic},
		{"a wrong first byte, a wrong kind", sealed("\xb6\x04\x20\x20"), api.ErrMagic},
		{"a number in too many bytes, an item that may not be", sealed("\xb7\x01\x02\x01\x81\x00\x01\x01\x20\x01\x01"), api.ErrForm},
		{"an item that may not be, bytes left", sealed("\xb7\x01\x02\x01\x01\x01\x00\x00\x01\x00\x01A\x00\x00\x00\x00\x00\x00"), api.ErrName},
		{"an item that may not be, from a node to itself", sealed("\xb7\x01\x02\x02\x01\x01\x00\x00\x01\x00\x01A\x00\x00\x00\x00\x00"), api.ErrName},
		{"an item that may not be, of epoch 0", sealed("\xb7\x01\x02\x01\x00\x01\x00\x00\x01\x00\x01A\x00\x00\x00\x00\x00"), api.ErrName},
		{"an item cut, from 32", sealed("\xb7\x01\x20\x01\x01\x01\x01\x03"), api.ErrShort},
		{"bytes left, a wrong kind", sealed("\xb7\x04\x02\x01\x00"), api.ErrRest},
		{"bytes left, from a node to itself", sealed("\xb7\x03\x02\x02\x00"), api.ErrRest},
		{"bytes left, epoch 0", sealed("\xb7\x02\x01\x02\x00\x00\x00\x01\x00"), api.ErrRest},
		{"a wrong kind, from a node to itself", sealed("\xb7\x04\x02\x02"), api.ErrKind},
		{"from a node to itself, of epoch 0", sealed("\xb7\x02\x02\x02\x00\x00\x00\x01"), api.ErrNode},
	} {
		refuse(t, c.about, c.b, c.want)
	}
}

// TestShort gives fewer than eight bytes, with and without the right sum.
func TestShort(t *testing.T) {
	for n := range 8 {
		refuse(t, "zeros", make([]byte, n), api.ErrShort)
		refuse(t, "a torn keep-alive", sealed("\xb7\x03\x02\x01")[:n], api.ErrShort)
		if n >= 4 {
			refuse(t, "a keep-alive cut and sealed", sealed("\xb7\x03\x02"[:n-4]), api.ErrShort)
		}
	}
	refuse(t, "nothing", nil, api.ErrShort)
	refuse(t, "eight zeros", make([]byte, 8), api.ErrSum)
}

// TestCut cuts what is sealed, and lays bytes behind it: the seal is right, the frame is not.
func TestCut(t *testing.T) {
	for _, c := range encodings() {
		for n := range len(c.b) {
			refuse(t, c.about+", cut", sealed(c.b[:n]), api.ErrShort)
		}
		for _, more := range []string{"\x00", "\xff", c.b} {
			refuse(t, c.about+", and bytes behind it", sealed(c.b+more), api.ErrRest)
		}
	}
}

// TestDamaged turns each bit, and tears the end off at each place: no damage goes unnoticed.
func TestDamaged(t *testing.T) {
	for _, c := range encodings() {
		whole := sealed(c.b)
		for i := range whole {
			for bit := range 8 {
				b := slices.Clone(whole)
				b[i] ^= 1 << bit
				refuse(t, c.about+", one bit turned", b, api.ErrSum)
			}
			if i >= 8 {
				refuse(t, c.about+", torn", whole[:i], api.ErrSum)
			}
		}
		refuse(t, c.about+", not sealed", append([]byte(c.b), 0, 0, 0, 0), api.ErrSum)
		sum := whole[len(c.b):]
		slices.Reverse(sum)
		refuse(t, c.about+", the sum backwards", whole, api.ErrSum)
	}
}

// TestSame changes each field of a frame.
func TestSame(t *testing.T) {
	full := aData()
	full.Cum, full.Bits, full.Life = 1, 2, 3
	frames := []Frame{
		full,
		changed(full, func(f *Frame) { f.Kind = Ack }),
		changed(full, func(f *Frame) { f.From++ }),
		changed(full, func(f *Frame) { f.To++ }),
		changed(full, func(f *Frame) { f.Epoch++ }),
		changed(full, func(f *Frame) { f.Seq++ }),
		changed(full, func(f *Frame) { f.Cum++ }),
		changed(full, func(f *Frame) { f.Bits ^= 1 << 63 }),
		changed(full, func(f *Frame) { f.Life++ }),
		changed(full, func(f *Frame) { f.Item = api.Item{} }),
		changed(full, func(f *Frame) { f.Item.Event.Seq++ }),
		changed(full, func(f *Frame) { f.Item.Event.Rule = "" }),
		changed(full, func(f *Frame) { f.Item.Event.Value++ }),
		changed(full, func(f *Frame) { f.Item.Event.Labels = nil }),
		changed(full, func(f *Frame) { f.Item.Event.Labels[1].Value = "web-2" }),
		changed(full, func(f *Frame) { f.Item.IsGap = true }),
		changed(full, func(f *Frame) { f.Item = item.Gap(3, 1, 200) }),
		changed(full, func(f *Frame) { f.Item = item.Gap(3, 1, 201) }),
		changed(full, func(f *Frame) { f.From, f.To = f.To, f.From }),
		{},
		anAck(),
		anAlive(),
	}
	for i, a := range frames {
		for j, b := range frames {
			b.Item = item.Clone(b.Item)
			if got := Same(a, b); got != (i == j) {
				t.Errorf("P5.2: Same of %+v and %+v is %v", a, b, got)
			}
		}
	}
}

// TestSameIgnores: what does not count in an item may differ.
func TestSameIgnores(t *testing.T) {
	withGap := changed(aData(), func(f *Frame) { f.Item.Gap = api.Gap{Origin: 3, From: 1, To: 200} })
	if !Same(withGap, aData()) || !Same(aData(), withGap) {
		t.Error("P5.2: the gap of an event counts")
	}
	withEvent := changed(aGap(), func(f *Frame) { f.Item.Event = anEvent() })
	if !Same(withEvent, aGap()) || !Same(aGap(), withEvent) {
		t.Error("P5.2: the event of a gap counts")
	}
	empty := changed(anAck(), func(f *Frame) { f.Item.Event.Labels = []api.Pair{} })
	if !Same(empty, anAck()) || !Same(anAck(), empty) {
		t.Error("R5: no labels are not the same as an empty list of them")
	}
}
