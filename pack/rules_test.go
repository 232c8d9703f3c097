package pack

import (
	"bytes"
	"math"
	"math/rand"
	"slices"
	"strings"
	"testing"

	"watchfire/api"
)

// thing is one that can be put and taken.
type thing struct {
	put  func(w *Writer)
	same func(r *Reader) bool
}

// someThing makes a thing of any kind.
func someThing(r *rand.Rand) thing {
	n, b := r.Uint64()>>r.Intn(64), make([]byte, r.Intn(300))
	r.Read(b)
	s := string(b)
	switch r.Intn(6) {
	case 0:
		return thing{func(w *Writer) { w.Byte(byte(n)) }, func(r *Reader) bool { return r.Byte() == byte(n) }}
	case 1:
		return thing{func(w *Writer) { w.Uint(n) }, func(r *Reader) bool { return r.Uint() == n }}
	case 2:
		return thing{func(w *Writer) { w.Int(int64(n)) }, func(r *Reader) bool { return r.Int() == int64(n) }}
	case 3:
		return thing{func(w *Writer) { w.Int(-int64(n)) }, func(r *Reader) bool { return r.Int() == -int64(n) }}
	case 4:
		return thing{func(w *Writer) { w.Bool(n%2 == 1) }, func(r *Reader) bool { return r.Bool() == (n%2 == 1) }}
	}
	return thing{func(w *Writer) { w.Text(s) }, func(r *Reader) bool { return r.Text(len(s)) == s }}
}

// TestManyThings puts many things of all kinds one behind the other, and takes them; from a part of the bytes, the reader takes what is whole and then tells that bytes are missing.
func TestManyThings(t *testing.T) {
	r := rand.New(rand.NewSource(3))
	for range 200 {
		var w Writer
		var things []thing
		var ends []int
		for range r.Intn(30) {
			x := someThing(r)
			x.put(&w)
			things, ends = append(things, x), append(ends, len(w.Bytes()))
		}
		b := w.Bytes()
		for _, most := range []int{len(b), r.Intn(len(b) + 1)} {
			reader := Read(b[:most])
			for i, x := range things {
				if same := x.same(reader); ends[i] <= most && !same {
					t.Fatalf("P3.2: thing %d of %d isn't what was put", i, len(things))
				}
				if short := reader.Err() == api.ErrShort; short != (ends[i] > most) {
					t.Fatalf("P3.2: thing %d of %d in part of its bytes: error %d", i, len(things), reader.Err())
				}
			}
			if e := reader.Done(); (e == api.OK) != (most == len(b)) {
				t.Fatalf("P3.2: Done of %d of %d bytes: %d", most, len(b), e)
			}
		}
	}
}

// step does one thing to a reader, and tells whether the answer was zero.
func step(r *Reader, kind, most int) bool {
	switch kind {
	case 0:
		return r.Byte() == 0
	case 1:
		return r.Uint() == 0
	case 2:
		return r.Int() == 0
	case 3:
		return !r.Bool()
	case 4:
		return r.Text(most) == ""
	case 5:
		return r.Count(uint64(most)) == 0
	case 6:
		return r.Done() == api.OK
	}
	r.Fail(api.Errno(most))
	return true
}

// TestP1 does anything to readers of any bytes: every call ends without a panic, what is left never grows, and the first error stays.
func TestP1(t *testing.T) {
	r := rand.New(rand.NewSource(4))
	mosts := []int{0, 1, 5, 300, -1, math.MaxInt, math.MinInt}
	for range 20000 {
		b := make([]byte, r.Intn(30))
		r.Read(b)
		reader := Read(b)
		for range 12 {
			kind, most := r.Intn(8), mosts[r.Intn(len(mosts))]
			left, e := reader.Left(), reader.Err()
			zero := step(reader, kind, most)
			if reader.Left() > left || e != api.OK && reader.Err() != e {
				t.Fatalf("P3.2: call %d of a reader of %x: %d bytes left of %d, error %d behind %d", kind, b, reader.Left(), left, reader.Err(), e)
			}
			if reader.Err() != api.OK && (reader.Left() != 0 || kind < 6 && !zero) {
				t.Fatalf("P3.2: call %d of a reader of %x answers something beside error %d", kind, b, reader.Err())
			}
		}
	}
}

// TestP1Great gives great arguments: every call ends.
func TestP1Great(t *testing.T) {
	text := strings.Repeat("abc\xff", 1<<22)
	var w Writer
	for i := range 1 << 20 {
		w.Uint(uint64(i) << 20)
	}
	w.Text(text)
	w.Text(text)
	b := w.Bytes()
	r := Read(b)
	for i := range 1 << 20 {
		if r.Uint() != uint64(i)<<20 {
			t.Fatal("P1: many numbers")
		}
	}
	if r.Text(len(text)) != text || r.Text(len(text)-1) != "" || r.Err() != api.ErrLong {
		t.Error("P1: great texts")
	}
	if r := Read(bytes.Repeat([]byte{0x80}, 1<<24)); r.Uint() != 0 || r.Err() != api.ErrRange {
		t.Error("P1: a number of many bytes")
	}
}

func TestR1(t *testing.T) {
	if n := math.MaxInt; uint64(n) != 1<<63-1 {
		t.Error("R1: int hasn't 64 bits")
	}
}

// TestR3: beside an error a reader answers nothing of what it had read of the thing.
func TestR3(t *testing.T) {
	for _, b := range []string{"\xff\x00abc", "\xff", "\x05abc", "\x7fabc", strings.Repeat("\xff", 10)} {
		if r := Read([]byte(b)); r.Text(9) != "" || r.Err() == api.OK {
			t.Errorf("R3: Text of %x", b)
		}
		if r := Read([]byte(b)); r.Count(4) != 0 || r.Err() == api.OK {
			t.Errorf("R3: Count of %x", b)
		}
	}
	for _, b := range []string{"\xff\x00abc", "\xff", "\xfe\xff", strings.Repeat("\xff", 10)} {
		if r := Read([]byte(b)); r.Uint() != 0 || r.Err() == api.OK {
			t.Errorf("R3: Uint of %x", b)
		}
		if r := Read([]byte(b)); r.Int() != 0 || r.Err() == api.OK {
			t.Errorf("R3: Int of %x", b)
		}
		if r := Read([]byte(b)); r.Bool() || r.Err() == api.OK {
			t.Errorf("R3: Bool of %x", b)
		}
	}
}

// TestR4: a reader's errors leave the bytes, and other readers of them, as they were.
func TestR4(t *testing.T) {
	for about, fail := range failures() {
		b := []byte("\x03web\x01")
		other := Read(b)
		r, e := fail()
		if r.Done() != e || other.Text(3) != "web" || !other.Bool() || other.Done() != api.OK || string(b) != "\x03web\x01" {
			t.Errorf("R4: %s error changes something else", about)
		}
	}
}

func TestR5(t *testing.T) {
	for _, b := range [][]byte{nil, {}} {
		r := Read(b)
		if r == nil || r.Left() != 0 || r.Err() != api.OK || r.Done() != api.OK {
			t.Error("R5: a reader of an empty list")
		}
		if r.Byte() != 0 || r.Err() != api.ErrShort {
			t.Error("R5: a byte of an empty list")
		}
	}
	var zero Reader
	if zero.Left() != 0 || zero.Done() != api.OK || zero.Text(9) != "" || zero.Err() != api.ErrShort {
		t.Error("R5: the zero reader isn't one of an empty list")
	}
}

// TestR6Read: a reader neither changes nor keeps the bytes that it is given.
func TestR6Read(t *testing.T) {
	whole := []byte("\xee\xee\x03web\x81\x01\x01\xee\xee\xee\xee")
	old := slices.Clone(whole)
	r := Read(whole[2:9])
	text := r.Text(3)
	if !bytes.Equal(whole, old) {
		t.Errorf("R6: a reader changes its bytes: %x", whole)
	}
	clear(whole)
	if text != "web" || r.Uint() != 129 || !r.Bool() || r.Done() != api.OK {
		t.Error("R6: a reader keeps the memory that it is given")
	}
	whole = slices.Clone(old)
	r = Read(whole[2:9])
	r.Fail(api.ErrKind)
	Read(whole[2:10]).Done()
	if !bytes.Equal(whole, old) {
		t.Errorf("R6: a reader that fails changes its bytes: %x", whole)
	}
}

// TestR6Bytes: what a writer answers is nobody else's: neither later calls nor what is done to it are seen on the other side.
func TestR6Bytes(t *testing.T) {
	var w Writer
	var want []byte
	for i := range 300 {
		w.Byte(byte(i))
		want = append(want, byte(i))
		first := w.Bytes()
		kept := slices.Clone(first)
		w.Text("x")
		want = append(want, 1, 'x')
		if !bytes.Equal(first, kept) {
			t.Fatal("R6: what a writer answered is changed by a later call")
		}
		first = first[:cap(first)]
		for j := range first {
			first[j] = 0xdd
		}
		if !bytes.Equal(w.Bytes(), want) {
			t.Fatal("R6: a writer keeps what it answered")
		}
	}
}

// TestR7Writer: a nil writer does nothing.
func TestR7Writer(t *testing.T) {
	var none *Writer
	for range 2 {
		none.Byte(1)
		none.Uint(0)
		none.Uint(math.MaxUint64)
		none.Int(-1)
		none.Int(1)
		none.Bool(true)
		none.Bool(false)
		none.Text("")
		none.Text("web")
		if b := none.Bytes(); b != nil {
			t.Errorf("R7: a nil writer's bytes: %x", b)
		}
	}
}

// TestR7Reader: a nil reader has the error ErrNil, and nothing else.
func TestR7Reader(t *testing.T) {
	var none *Reader
	for _, e := range []api.Errno{api.OK, api.ErrForm, api.ErrNil} {
		none.Fail(e)
		if none.Err() != api.ErrNil || none.Done() != api.ErrNil || none.Left() != 0 {
			t.Error("R7: a nil reader's errors")
		}
		if none.Byte() != 0 || none.Uint() != 0 || none.Int() != 0 || none.Bool() || none.Count(9) != 0 {
			t.Error("R7: a nil reader's numbers")
		}
		for _, most := range []int{0, 9, -1, math.MaxInt} {
			if none.Text(most) != "" {
				t.Error("R7: a nil reader's text")
			}
		}
	}
}

// TestR8: the same calls have the same answers, whatever other writers and readers do between them.
func TestR8(t *testing.T) {
	var first, second, other Writer
	for i := range 200 {
		first.Uint(uint64(i))
		other.Text("other")
		second.Uint(uint64(i))
		other.Bytes()
		first.Text("x")
		second.Text("x")
		if i%7 == 0 {
			first.Bytes()
		}
	}
	b := first.Bytes()
	if !bytes.Equal(b, second.Bytes()) {
		t.Error("R8: two writers, the same calls, other bytes")
	}
	one, two := Read(b), Read(b)
	for i := range 200 {
		bad := Read(b)
		bad.Fail(api.ErrSum)
		if one.Uint() != uint64(i) || one.Text(1) != "x" || two.Uint() != uint64(i) || two.Text(1) != "x" {
			t.Fatal("R8: two readers, the same calls, other answers")
		}
	}
	if one.Done() != api.OK || two.Done() != api.OK {
		t.Error("R8: the ends of two readers")
	}
}
