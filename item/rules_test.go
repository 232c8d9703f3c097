package item

import (
	"bytes"
	"math"
	"math/rand"
	"reflect"
	"slices"
	"strings"
	"testing"

	"watchfire/api"
	"watchfire/pack"
)

// spare returns labels with spare capacity, whose memory is the whole list that is returned beside them.
func spare(l []api.Pair) (labels, whole []api.Pair) {
	whole = append(slices.Clone(l), api.Pair{Key: "spare", Value: "spare"}, api.Pair{Key: "spare", Value: "spare"})
	return whole[:len(l)], whole
}

// some returns one of the values.
func some[T any](r *rand.Rand, of ...T) T {
	return of[r.Intn(len(of))]
}

// someItem returns an item of fields near the limits, which Check may refuse.
func someItem(r *rand.Rand) api.Item {
	numbers := []uint64{0, 1, 2, 127, 128, 300, api.MaxNumber - 1, api.MaxNumber, api.MaxNumber + 1, great - 1, great}
	x := api.Item{
		IsGap: r.Intn(3) == 0,
		Event: api.Event{
			Origin: some(r, uint8(0), 5, 31, 32, 255),
			Seq:    some(r, numbers...),
			Time:   some(r, numbers...),
			Rule:   some(r, "load", "own.down", "own.", "own", "", "A", "abcdefghijkl", "abcdefghijklm", "a\xff"),
			State:  some(r, api.Idle, api.Firing, api.Pending, api.Unknown, 255),
			Prio:   some(r, uint8(0), 7, 8, 255),
			Value:  some[int64](r, 0, -1, 1, 64, math.MaxInt64, math.MinInt64),
			Own:    some(r, uint8(0), 0, 1, 2, 3, 255),
		},
		Gap: api.Gap{Origin: some(r, uint8(0), 31, 32), From: some(r, numbers...), To: some(r, numbers...)},
	}
	for range some(r, 0, 1, 2, 8, 9, 300) {
		x.Event.Labels = append(x.Event.Labels, api.Pair{
			Key:   some(r, "a", "b", "host", "abcdefgh", "abcdefghi", "", "A"),
			Value: some(r, "a", "0123456789abcdef", "0123456789abcdefg", "", "\x00"),
		})
	}
	return x
}

// goodItem returns an item that Check allows.
func goodItem(r *rand.Rand) api.Item {
	if r.Intn(3) == 0 {
		from := uint64(1 + r.Int63n(api.MaxNumber))
		return Gap(uint8(r.Intn(api.MaxNodes)), from, from+uint64(r.Int63n(int64(api.MaxNumber-from+1))))
	}
	v := api.Event{
		Origin: uint8(r.Intn(api.MaxNodes)),
		Seq:    uint64(1+r.Int63n(api.MaxNumber)) >> r.Intn(40),
		Time:   uint64(r.Int63n(api.MaxNumber+1)) >> r.Intn(40),
		Rule:   some(r, "load", "own", "a", "abcdefghijkl"),
		Labels: manyLabels(r.Intn(api.MaxPairs + 1)),
		State:  some(r, api.Idle, api.Firing),
		Prio:   uint8(r.Intn(api.MaxPrio + 1)),
		Value:  int64(r.Uint64()) >> r.Intn(64),
		Own:    uint8(r.Intn(3)),
	}
	v.Seq = max(v.Seq, 1)
	if v.Own != api.OwnNone {
		v.Rule = "own." + some(r, "", "a", "down", "12345678")
	}
	return Of(v)
}

// TestGoodItems puts and takes any items that Check allows.
func TestGoodItems(t *testing.T) {
	r := rand.New(rand.NewSource(1))
	for range 5000 {
		x := goodItem(r)
		if e := Check(x); e != api.OK {
			t.Fatalf("P4.1: %+v: %d", x, e)
		}
		b := Encode(x)
		got, e := Decode(b)
		if e != api.OK || !Same(got, x) || Size(x) != len(b) {
			t.Fatalf("P4.3: %+v is decoded as %+v, %d", x, got, e)
		}
	}
}

// TestP1 gives any items to all functions, and any bytes to Decode, which takes no bytes but those that Encode makes.
func TestP1(t *testing.T) {
	r := rand.New(rand.NewSource(2))
	for range 20000 {
		a, b := someItem(r), someItem(r)
		encoded := Encode(a)
		got, e := Decode(encoded)
		if (e == api.OK) != (Check(a) == api.OK) || e == api.OK && !Same(got, a) || Size(a) != len(encoded) {
			t.Fatalf("P4.3: %+v is decoded as %+v, %d", a, got, e)
		}
		if left, ok := Trim(a, some(r, 0, a.Event.Seq, a.Gap.From, b.Gap.To)); ok && Check(a) == api.OK && Check(left) != api.OK {
			t.Fatalf("P4.2: what Trim leaves of %+v: %+v", a, left)
		}
		if both, ok := Join(a, b); ok && Check(a) == api.OK && Check(b) == api.OK && Check(both) != api.OK {
			t.Fatalf("P4.2: Join of %+v and %+v: %+v", a, b, both)
		}
		Lasts(a)
		Span(a)
		if !Same(Clone(a), a) || !Same(Of(a.Event), Of(a.Event)) {
			t.Fatalf("P4.2: %+v is not the same as itself", a)
		}
	}
	for range 100000 {
		b := Encode(goodItem(r))
		for range 1 + r.Intn(3) {
			b[r.Intn(len(b))] = some(r, byte(r.Intn(256)), 0, 1, 0x80, 'a')
		}
		x, e := Decode(b)
		if e == api.OK && (Check(x) != api.OK || !bytes.Equal(Encode(x), b)) || e != api.OK && !reflect.DeepEqual(x, api.Item{}) {
			t.Fatalf("P4.3: %x is decoded as %+v, %d", b, x, e)
		}
	}
	for range 20000 {
		b := make([]byte, r.Intn(30))
		r.Read(b)
		if x, e := Decode(b); e == api.OK && !bytes.Equal(Encode(x), b) {
			t.Fatalf("P4.3: %x is decoded as %+v", b, x)
		}
	}
}

// TestP1Great gives great items and many bytes: every call ends.
func TestP1Great(t *testing.T) {
	long := strings.Repeat("x", 1<<20)
	v := api.Event{Rule: "own." + long, Labels: slices.Repeat([]api.Pair{{Key: long, Value: long}}, 8)}
	x := Of(v)
	if Check(x) != api.ErrRange || !Own(v.Rule) || !Same(x, Clone(x)) {
		t.Error("P1: a great event")
	}
	if n := Size(x); n != len(Encode(x)) || n < 17*len(long) {
		t.Errorf("P1: the size of a great event: %d", n)
	}
	if _, e := Decode(Encode(x)); e != api.ErrLong {
		t.Errorf("P1: a great event decoded: %d", e)
	}
	if _, e := Decode(make([]byte, 1<<24)); e != api.ErrRange {
		t.Errorf("P1: many zeros decoded: %d", e)
	}
	x = Of(api.Event{Labels: make([]api.Pair, 1<<20)})
	if Size(x) != 12+2<<20 {
		t.Errorf("P1: the size of an event of many labels: %d", Size(x))
	}
}

func TestR1(t *testing.T) {
	if n := math.MaxInt; uint64(n) != 1<<63-1 {
		t.Error("R1: int hasn't 64 bits")
	}
}

// TestR4: an error of one item leaves the writer, and other readers of its bytes, as they were.
func TestR4(t *testing.T) {
	b := []byte("\x01\x20\x01\x01")
	other := pack.Read(b)
	if _, e := Decode(b); e != api.ErrRange {
		t.Errorf("R4: %d", e)
	}
	Take(pack.Read(b))
	if string(b) != "\x01\x20\x01\x01" || other.Left() != 4 || other.Err() != api.OK {
		t.Error("R4: an error changes bytes, or another reader")
	}
}

func TestR5(t *testing.T) {
	for _, l := range [][]api.Pair{nil, {}} {
		v := api.Event{Seq: 1, Rule: "a", Labels: l}
		if x := Of(v); Check(x) != api.OK || string(Encode(x)) != "\x00\x00\x01\x00\x01a\x00\x00\x00\x00\x00" || Size(x) != 11 || len(Clone(x).Event.Labels) != 0 {
			t.Error("R5: an empty list of labels")
		}
	}
	for _, b := range [][]byte{nil, {}} {
		if x, e := Decode(b); e != api.ErrShort || !reflect.DeepEqual(x, api.Item{}) {
			t.Error("R5: an empty list of bytes")
		}
	}
}

// TestR6Arguments: labels that are handed in, and what lies behind them, stay as they are.
func TestR6Arguments(t *testing.T) {
	for _, isGap := range []bool{false, true} {
		labels, whole := spare(anEvent().Labels)
		old := slices.Clone(whole)
		x := both(isGap)
		x.Event.Labels = labels
		was := x
		Check(x)
		Of(x.Event)
		Span(x)
		Trim(x, 0)
		Trim(x, 15)
		Trim(x, great)
		Join(x, x)
		Join(x, Gap(3, 21, 30))
		Lasts(x)
		Put(&pack.Writer{}, x)
		Encode(x)
		Size(x)
		Same(x, x)
		Clone(x)
		if !slices.Equal(whole, old) || !reflect.DeepEqual(x, was) {
			t.Errorf("R6: an argument is changed: %+v", whole)
		}
	}
}

// TestR6Results: what is answered shares no memory with what was handed in, neither by changes of the one nor of the other.
func TestR6Results(t *testing.T) {
	for _, c := range []struct {
		about string
		make  func(x api.Item) api.Item
	}{
		{"Of", func(x api.Item) api.Item { return Of(x.Event) }},
		{"Clone", Clone},
		{"Clone of a gap with an event", func(x api.Item) api.Item { x.IsGap = true; return Clone(x) }},
		{"Trim", func(x api.Item) api.Item { left, _ := Trim(x, 299); return left }},
		{"Trim of a gap with an event", func(x api.Item) api.Item { x.IsGap = true; left, _ := Trim(x, 9); return left }},
		{"Trim of a gap that is cut", func(x api.Item) api.Item { x.IsGap = true; left, _ := Trim(x, 12); return left }},
		{"Join", func(x api.Item) api.Item { x.IsGap = true; one, _ := Join(x, Gap(3, 21, 30)); return one }},
	} {
		labels, whole := spare(anEvent().Labels)
		x := both(false)
		x.Event.Labels = labels
		got := c.make(x)
		kept := Clone(got)
		clear(whole)
		if !reflect.DeepEqual(got, kept) {
			t.Errorf("R6: %s keeps the memory that it is given", c.about)
		}
		mine := got.Event.Labels[:cap(got.Event.Labels)]
		for i := range mine {
			mine[i] = api.Pair{Key: "mine", Value: "mine"}
		}
		if slices.ContainsFunc(whole, func(p api.Pair) bool { return p != api.Pair{} }) {
			t.Errorf("R6: %s hands out the memory that it is given", c.about)
		}
	}
}

// TestR6Bytes: an item that is decoded, and the bytes that it is decoded from, share nothing, nor do two encodings.
func TestR6Bytes(t *testing.T) {
	x := Of(anEvent())
	b := Encode(x)
	whole := append(slices.Clone(b), 0xee, 0xee)
	old := slices.Clone(whole)
	first, e := Decode(whole[:len(b)])
	second, _ := Decode(whole[:len(b)])
	r := pack.Read(whole[:len(b)])
	third := Take(r)
	if e != api.OK || !bytes.Equal(whole, old) {
		t.Errorf("R6: Decode changes its bytes: %x, %d", whole, e)
	}
	clear(whole)
	if !Same(first, x) || !Same(third, x) {
		t.Error("R6: what Decode or Take answers keeps the bytes")
	}
	clear(first.Event.Labels[:cap(first.Event.Labels)])
	if !Same(second, x) || !Same(third, x) {
		t.Error("R6: two answers share memory")
	}
	again := Encode(x)
	clear(b[:cap(b)])
	if !bytes.Equal(again, Encode(x)) || !Same(x, Of(anEvent())) {
		t.Error("R6: two encodings share memory")
	}
}

// TestR7: without a writer or a reader nothing is done.
func TestR7(t *testing.T) {
	for range 2 {
		Put(nil, Of(anEvent()))
		Put(nil, Gap(3, 1, 200))
		Put(nil, api.Item{})
		if x := Take(nil); !reflect.DeepEqual(x, api.Item{}) {
			t.Errorf("R7: an item of no reader: %+v", x)
		}
	}
}

// TestR8: the same calls have the same answers, whatever is asked between them.
func TestR8(t *testing.T) {
	r := rand.New(rand.NewSource(3))
	for range 500 {
		x, other := someItem(r), someItem(r)
		b, e, size := Encode(x), Check(x), Size(x)
		left, ok := Trim(x, 5)
		decoded, f := Decode(b)
		Check(other)
		Decode(Encode(other))
		Trim(other, 5)
		again, okAgain := Trim(x, 5)
		decodedAgain, fAgain := Decode(b)
		if !bytes.Equal(b, Encode(x)) || e != Check(x) || size != Size(x) || ok != okAgain || !reflect.DeepEqual(left, again) || f != fAgain || !reflect.DeepEqual(decoded, decodedAgain) {
			t.Fatalf("R8: %+v", x)
		}
	}
}
