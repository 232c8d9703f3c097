package frame

import (
	"bytes"
	"math"
	"math/rand"
	"reflect"
	"slices"
	"strings"
	"testing"

	"watchfire/api"
	"watchfire/crc"
	"watchfire/item"
)

// spare returns labels with spare capacity, whose memory is the whole list that is returned beside them.
func spare(l []api.Pair) (labels, whole []api.Pair) {
	whole = append(slices.Clone(l), api.Pair{Key: "spare", Value: "spare"}, api.Pair{Key: "spare", Value: "spare"})
	return whole[:len(l)], whole
}

// some returns one of the values.
func some[T any](r *rand.Rand, of ...T) T {
	return of[r.Intn(len(of))]
}

// someItem returns an item which Check may refuse, often none.
func someItem(r *rand.Rand) api.Item {
	event := item.Of(anEvent())
	event.Event.Seq = some[uint64](r, 0, 1, api.MaxNumber, over)
	event.Event.Rule = some(r, "load", "load", "A", "own.a")
	return some(r, api.Item{}, api.Item{}, api.Item{IsGap: true}, api.Item{Gap: api.Gap{From: 1}}, item.Gap(3, 1, 200), item.Gap(3, 2, 1), item.Of(anEvent()), event)
}

// someFrame returns a frame of fields near the limits, which Check may refuse.
func someFrame(r *rand.Rand) Frame {
	number := func() uint64 {
		return some[uint64](r, 0, 0, 1, 1, 300, api.MaxNumber, over, great)
	}
	return Frame{
		Kind:  some[uint8](r, 0, 1, 1, 1, 2, 2, 2, 3, 3, 4, 255),
		From:  some[uint8](r, 0, 1, 2, 3, 31, 32, 255),
		To:    some[uint8](r, 0, 1, 2, 3, 31, 32, 255),
		Epoch: number(),
		Seq:   number(),
		Item:  someItem(r),
		Cum:   some(r, 0, number()),
		Bits:  some[uint64](r, 0, 1, great),
		Life:  some(r, 0, number()),
	}
}

// goodFrame returns a frame that Check allows.
func goodFrame(r *rand.Rand) Frame {
	number := func() uint64 { return uint64(1+r.Int63n(api.MaxNumber))>>r.Intn(40) | 1 }
	f := Frame{Kind: some[uint8](r, Data, Ack, Alive), From: uint8(r.Intn(api.MaxNodes))}
	f.To = (f.From + uint8(1+r.Intn(api.MaxNodes-1))) % api.MaxNodes
	switch f.Kind {
	case Data:
		f.Epoch, f.Seq = number(), number()
		f.Item = some(r, item.Of(anEvent()), item.Gap(3, 1, number()))
		f.Item.Event.Value = int64(r.Uint64()) >> r.Intn(64)
	case Ack:
		f.Epoch, f.Cum, f.Bits, f.Life = number(), number()-1, r.Uint64()>>r.Intn(64), number()
	}
	return f
}

// nearFrame returns a frame that Check allows, of which one field is changed to one that Check may refuse there.
func nearFrame(r *rand.Rand) Frame {
	f, other := goodFrame(r), someFrame(r)
	switch r.Intn(8) {
	case 0:
		f.Kind = other.Kind
	case 1:
		f.From = other.From
	case 2:
		f.To = other.To
	case 3:
		f.Epoch = other.Epoch
	case 4:
		f.Seq = other.Seq
	case 5:
		f.Item = other.Item
	case 6:
		f.Cum, f.Bits = other.Cum, other.Bits
	case 7:
		f.Life = other.Life
	}
	return f
}

// wantCheck works Check's answer out by the chapter's words, one condition behind the other.
func wantCheck(f Frame) api.Errno {
	isData, isAck, isAlive := f.Kind == 1, f.Kind == 2, f.Kind == 3
	empty := item.Same(f.Item, api.Item{})
	for _, c := range []struct {
		holds bool
		e     api.Errno
	}{
		{!isData && !isAck && !isAlive, api.ErrKind},
		{f.From > 31, api.ErrNode},
		{f.To > 31, api.ErrNode},
		{f.From == f.To, api.ErrNode},
		{f.Epoch > 1<<40, api.ErrRange},
		{f.Seq > 1<<40, api.ErrRange},
		{f.Cum > 1<<40, api.ErrRange},
		{f.Life > 1<<40, api.ErrRange},
		{isData && (f.Seq == 0 || f.Epoch == 0), api.ErrRange},
		{isData && (f.Cum != 0 || f.Bits != 0 || f.Life != 0), api.ErrRange},
		{isData && item.Check(f.Item) != api.OK, item.Check(f.Item)},
		{isAck && (f.Epoch == 0 || f.Life == 0), api.ErrRange},
		{isAck && f.Seq != 0, api.ErrRange},
		{isAck && !empty, api.ErrRange},
		{isAlive && (f.Epoch != 0 || f.Seq != 0 || f.Cum != 0 || f.Bits != 0 || f.Life != 0), api.ErrRange},
		{isAlive && !empty, api.ErrRange},
	} {
		if c.holds {
			return c.e
		}
	}
	return api.OK
}

// TestAnyFrame checks any frames, encodes them, and decodes what Encode made.
func TestAnyFrame(t *testing.T) {
	r, table, good := rand.New(rand.NewSource(1)), crc.New(), 0
	for range 100000 {
		f := some(r, someFrame, nearFrame)(r)
		want := wantCheck(f)
		if got := Check(f); got != want {
			t.Fatalf("P5.1: %+v: %d, want %d", f, got, want)
		}
		b, e := Encode(table, f)
		if e != want || (b == nil) != (e != api.OK) {
			t.Fatalf("P5.2: %+v is encoded as %x, %d, want %d", f, b, e, want)
		}
		if e != api.OK {
			continue
		}
		good++
		if got, e := Decode(table, b); e != api.OK || !Same(got, f) {
			t.Fatalf("P5.2: %+v is decoded as %+v, %d", f, got, e)
		}
	}
	if good < 10000 {
		t.Errorf("only %d frames are right", good)
	}
}

// TestGoodFrames encodes and decodes any frames that Check allows.
func TestGoodFrames(t *testing.T) {
	r, table := rand.New(rand.NewSource(2)), crc.New()
	for range 10000 {
		f := goodFrame(r)
		if e := Check(f); e != api.OK {
			t.Fatalf("P5.1: %+v: %d", f, e)
		}
		b, e := Encode(table, f)
		if e != api.OK {
			t.Fatalf("P5.2: %+v: %d", f, e)
		}
		if got, e := Decode(crc.New(), b); e != api.OK || !Same(got, f) {
			t.Fatalf("P5.2: %+v is decoded as %+v, %d", f, got, e)
		}
	}
}

// TestAnyBytes decodes frames of which some bytes are changed, sealed anew, and any bytes: Decode takes none but those that Encode makes.
func TestAnyBytes(t *testing.T) {
	r, table, taken := rand.New(rand.NewSource(3)), crc.New(), 0
	decode := func(b []byte) {
		f, e := Decode(table, b)
		if e != api.OK {
			if !isZero(f) {
				t.Fatalf("R3: %x is decoded as %+v beside %d", b, f, e)
			}
			return
		}
		taken++
		if again, e := Encode(table, f); e != api.OK || !bytes.Equal(again, b) || Check(f) != api.OK {
			t.Fatalf("P5.2: %x is decoded as %+v, which is encoded as %x, %d", b, f, again, e)
		}
	}
	for range 100000 {
		whole, _ := Encode(table, goodFrame(r))
		b := whole[:len(whole)-4]
		for range 1 + r.Intn(3) {
			b[r.Intn(len(b))] = some(r, byte(r.Intn(256)), 0, 1, 2, 3, 0x80, 0xb7)
		}
		decode(table.Seal(b[:len(b)-some(r, 0, 0, 0, r.Intn(len(b)))]))
	}
	for range 50000 {
		b := make([]byte, r.Intn(30))
		r.Read(b)
		decode(b)
		decode(table.Seal(b))
		decode(table.Seal(slices.Concat([]byte{0xb7}, b)))
	}
	if taken < 100 {
		t.Errorf("only %d frames are taken", taken)
	}
}

// TestP1Great gives great frames and many bytes: every call ends.
func TestP1Great(t *testing.T) {
	table, long := crc.New(), strings.Repeat("x", 1<<20)
	f := aData()
	f.Item.Event.Rule = long
	if b, e := Encode(table, f); e != api.ErrName || b != nil || !Same(f, f) {
		t.Errorf("P1: a frame of a great rule: %d", e)
	}
	f = aData()
	f.Item.Event.Labels = make([]api.Pair, 1<<20)
	if b, e := Encode(table, f); e != api.ErrMany || b != nil || !Same(f, f) {
		t.Errorf("P1: a frame of many labels: %d", e)
	}
	zeros := make([]byte, 1<<24)
	refuse(t, "zeros of a wrong sum", zeros[:1<<20], api.ErrSum)
	refuse(t, "many zeros", table.Seal(zeros), api.ErrMagic)
	zeros[0], zeros[1], zeros[2] = 0xb7, Alive, 1
	refuse(t, "a keep-alive and many zeros", table.Seal(zeros), api.ErrRest)
}

func TestR1(t *testing.T) {
	if n := math.MaxInt; uint64(n) != 1<<63-1 {
		t.Error("R1: int hasn't 64 bits")
	}
}

// TestR4: an error that is found ahead of any sum leaves the table's counts as they were.
func TestR4(t *testing.T) {
	table := crc.New()
	table.Sum([]byte("123456789"))
	for _, f := range []Frame{{}, {Kind: 4, From: 1}, {Kind: Alive}, {Kind: Alive, From: 1, Bits: 1}, {Kind: Data, From: 1, Epoch: 1, Seq: 1}} {
		if b, e := Encode(table, f); e == api.OK || b != nil {
			t.Errorf("P5.2: %+v is encoded as %x", f, b)
		}
	}
	for n := range 8 {
		if _, e := Decode(table, make([]byte, n)); e != api.ErrShort {
			t.Errorf("P5.2: %d bytes: %d", n, e)
		}
	}
	if sums, bytes := table.Counts(); sums != 1 || bytes != 9 {
		t.Errorf("R4: an error changes the table: %d sums of %d bytes", sums, bytes)
	}
}

func TestR5(t *testing.T) {
	for _, l := range [][]api.Pair{nil, {}} {
		f := Frame{Kind: Data, From: 1, Epoch: 1, Seq: 1, Item: api.Item{Event: api.Event{Seq: 1, Rule: "a", Labels: l}}}
		b, e := Encode(crc.New(), f)
		if e != api.OK || !bytes.Equal(b, sealed("\xb7\x01\x01\x00\x01\x01\x00\x00\x01\x00\x01a\x00\x00\x00\x00\x00")) {
			t.Errorf("R5: an empty list of labels: %x, %d", b, e)
		}
		if got, e := Decode(crc.New(), b); e != api.OK || len(got.Item.Event.Labels) != 0 || !Same(got, f) {
			t.Errorf("R5: an empty list of labels is decoded as %+v, %d", got, e)
		}
		none := Frame{Kind: Alive, From: 1, Item: api.Item{Event: api.Event{Labels: l}}}
		if e := Check(none); e != api.OK {
			t.Errorf("R5: an empty list of labels in a keep-alive: %d", e)
		}
	}
	for _, b := range [][]byte{nil, {}} {
		refuse(t, "an empty list", b, api.ErrShort)
	}
}

// TestR6Labels: the labels of an item that is handed in, and what lies behind them, stay as they are, of frames that are right and that are not.
func TestR6Labels(t *testing.T) {
	for _, base := range []Frame{aData(), aGap(), anAck(), anAlive(), {}} {
		for _, order := range []func([]api.Pair){func([]api.Pair) {}, slices.Reverse[[]api.Pair]} {
			labels, whole := spare(anEvent().Labels)
			order(labels)
			old := slices.Clone(whole)
			f := base
			f.Item.Event.Labels = labels
			was := f
			Check(f)
			Encode(crc.New(), f)
			Encode(nil, f)
			Same(f, f)
			Same(f, aData())
			Same(aData(), f)
			if !slices.Equal(whole, old) || !reflect.DeepEqual(f, was) {
				t.Errorf("R6: an argument is changed: %+v", whole)
			}
		}
	}
}

// TestR6Bytes: bytes that are handed in stay as they are, with what lies behind them, and a frame that is decoded keeps nothing of them.
func TestR6Bytes(t *testing.T) {
	for _, c := range encodings() {
		right, wrong := sealed(c.b), sealed(c.b+"\x00")
		for _, b := range [][]byte{right, wrong, right[:len(right)-1], right[:7]} {
			whole := append(slices.Clone(b), 0xee, 0xee, 0xee, 0xee, 0xee)
			old := slices.Clone(whole)
			Decode(crc.New(), whole[:len(b)])
			Decode(nil, whole[:len(b)])
			if !bytes.Equal(whole, old) {
				t.Errorf("R6: Decode changes its bytes, %x, to %x", old, whole)
			}
		}
		first, _ := Decode(crc.New(), right)
		second, _ := Decode(crc.New(), right)
		clear(right)
		if !Same(first, c.f) || !Same(second, c.f) {
			t.Errorf("R6: %s keeps the bytes that it is decoded from", c.about)
		}
		clear(first.Item.Event.Labels[:cap(first.Item.Event.Labels)])
		if !Same(second, c.f) {
			t.Errorf("R6: %s, decoded twice, shares memory", c.about)
		}
	}
}

// TestR6Results: what Encode answers shares no memory with anything else.
func TestR6Results(t *testing.T) {
	table := crc.New()
	for _, c := range encodings() {
		first, _ := Encode(table, c.f)
		second, _ := Encode(table, c.f)
		clear(first[:cap(first)])
		third, _ := Encode(table, c.f)
		if want := sealed(c.b); !bytes.Equal(second, want) || !bytes.Equal(third, want) {
			t.Errorf("R6: two encodings of %s share memory", c.about)
		}
	}
}

// TestR7: without a table nothing is encoded or decoded, whatever it is; what needs none works.
func TestR7(t *testing.T) {
	for _, f := range []Frame{aData(), aGap(), anAck(), anAlive(), {}, {Kind: 9, From: 99, To: 99}} {
		if b, e := Encode(nil, f); e != api.ErrNil || b != nil {
			t.Errorf("R7: %+v without a table: %x, %d", f, b, e)
		}
	}
	var none *crc.Table
	alive := sealed("\xb7\x03\x02\x01")
	for _, b := range [][]byte{nil, {}, {1, 2, 3}, alive, alive[:7], sealed("\xb6\x03\x02\x01"), none.Seal([]byte("\xb7\x03\x02\x01"))} {
		if f, e := Decode(nil, b); e != api.ErrNil || !isZero(f) {
			t.Errorf("R7: %x without a table: %+v, %d", b, f, e)
		}
	}
	if got, e := Decode(&crc.Table{}, alive); e != api.OK || !Same(got, anAlive()) {
		t.Errorf("P5.2: a frame decoded with the zero table: %+v, %d", got, e)
	}
	if b, e := Encode(&crc.Table{}, anAlive()); e != api.OK || !bytes.Equal(b, alive) {
		t.Errorf("P5.2: a frame encoded with the zero table: %x, %d", b, e)
	}
}

// TestR8: the same calls have the same answers, whatever is asked between them, by whichever table.
func TestR8(t *testing.T) {
	r, table := rand.New(rand.NewSource(4)), crc.New()
	for range 2000 {
		f, other := some(r, someFrame(r), goodFrame(r)), some(r, someFrame(r), goodFrame(r))
		b, e := Encode(table, f)
		got, d := Decode(table, b)
		otherBytes, _ := Encode(table, other)
		Decode(table, otherBytes)
		again, eAgain := Encode(crc.New(), f)
		gotAgain, dAgain := Decode(crc.New(), b)
		if e != eAgain || !bytes.Equal(b, again) || d != dAgain || !reflect.DeepEqual(got, gotAgain) || Check(f) != e {
			t.Fatalf("R8: %+v", f)
		}
	}
}
