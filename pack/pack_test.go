package pack

import (
	"bytes"
	"encoding/binary"
	"math"
	"math/big"
	"math/rand"
	"strings"
	"testing"

	"watchfire/api"
)

// written returns the bytes of what is put into a new writer.
func written(put func(w *Writer)) []byte {
	var w Writer
	put(&w)
	return w.Bytes()
}

// wantLeft holds what a reader says of itself against what it must say.
func wantLeft(t *testing.T, about string, r *Reader, left int, e api.Errno) {
	t.Helper()
	if r.Left() != left || r.Err() != e {
		t.Errorf("P3.2: %s: %d bytes left, error %d, want %d, %d", about, r.Left(), r.Err(), left, e)
	}
}

// wantUint works a number out by the chapter's words: how many bytes it takes, or why it is none.
func wantUint(b []byte) (uint64, int, api.Errno) {
	sum := new(big.Int)
	for i, c := range b {
		if i == 9 && c > 1 {
			return 0, 0, api.ErrRange
		}
		part := new(big.Int).Lsh(big.NewInt(int64(c%128)), uint(7*i))
		sum.Add(sum, part)
		if c >= 128 {
			continue
		}
		if len(binary.AppendUvarint(nil, sum.Uint64())) != i+1 {
			return 0, 0, api.ErrForm
		}
		return sum.Uint64(), i + 1, api.OK
	}
	return 0, 0, api.ErrShort
}

// numbers returns those at which encodings grow, their neighbours, the limits of other layers, and some others.
func numbers() []uint64 {
	l := []uint64{0, 300, api.MaxBytes, api.MaxNumber, 0xcbf43926}
	for bits := range 64 {
		n := uint64(1) << bits
		l = append(l, n-1, n, n+1, -n)
	}
	r := rand.New(rand.NewSource(1))
	for range 2000 {
		l = append(l, r.Uint64()>>r.Intn(64))
	}
	return l
}

func TestWriter(t *testing.T) {
	long := strings.Repeat("x", 300)
	for _, c := range []struct {
		about string
		put   func(w *Writer)
		want  string
	}{
		{"nothing", func(w *Writer) {}, ""},
		{"byte 0", func(w *Writer) { w.Byte(0) }, "\x00"},
		{"byte 127", func(w *Writer) { w.Byte(127) }, "\x7f"},
		{"byte 128", func(w *Writer) { w.Byte(128) }, "\x80"},
		{"byte 255", func(w *Writer) { w.Byte(255) }, "\xff"},
		{"number 0", func(w *Writer) { w.Uint(0) }, "\x00"},
		{"number 1", func(w *Writer) { w.Uint(1) }, "\x01"},
		{"number 127", func(w *Writer) { w.Uint(127) }, "\x7f"},
		{"number 128", func(w *Writer) { w.Uint(128) }, "\x80\x01"},
		{"number 200", func(w *Writer) { w.Uint(200) }, "\xc8\x01"},
		{"number 300", func(w *Writer) { w.Uint(300) }, "\xac\x02"},
		{"number 16383", func(w *Writer) { w.Uint(16383) }, "\xff\x7f"},
		{"number 16384", func(w *Writer) { w.Uint(16384) }, "\x80\x80\x01"},
		{"number 2^40", func(w *Writer) { w.Uint(api.MaxNumber) }, "\x80\x80\x80\x80\x80\x20"},
		{"number 2^63-1", func(w *Writer) { w.Uint(1<<63 - 1) }, strings.Repeat("\xff", 8) + "\x7f"},
		{"number 2^63", func(w *Writer) { w.Uint(1 << 63) }, strings.Repeat("\x80", 9) + "\x01"},
		{"number 2^64-1", func(w *Writer) { w.Uint(math.MaxUint64) }, strings.Repeat("\xff", 9) + "\x01"},
		{"0", func(w *Writer) { w.Int(0) }, "\x00"},
		{"-1", func(w *Writer) { w.Int(-1) }, "\x01"},
		{"1", func(w *Writer) { w.Int(1) }, "\x02"},
		{"-2", func(w *Writer) { w.Int(-2) }, "\x03"},
		{"63", func(w *Writer) { w.Int(63) }, "\x7e"},
		{"-64", func(w *Writer) { w.Int(-64) }, "\x7f"},
		{"64", func(w *Writer) { w.Int(64) }, "\x80\x01"},
		{"-65", func(w *Writer) { w.Int(-65) }, "\x81\x01"},
		{"2^63-1", func(w *Writer) { w.Int(math.MaxInt64) }, "\xfe" + strings.Repeat("\xff", 8) + "\x01"},
		{"-2^63+1", func(w *Writer) { w.Int(math.MinInt64 + 1) }, "\xfd" + strings.Repeat("\xff", 8) + "\x01"},
		{"-2^63", func(w *Writer) { w.Int(math.MinInt64) }, strings.Repeat("\xff", 9) + "\x01"},
		{"true", func(w *Writer) { w.Bool(true) }, "\x01"},
		{"false", func(w *Writer) { w.Bool(false) }, "\x00"},
		{"no text", func(w *Writer) { w.Text("") }, "\x00"},
		{"a text", func(w *Writer) { w.Text("web") }, "\x03web"},
		{"a text of bytes", func(w *Writer) { w.Text("é\x00\xff") }, "\x04\xc3\xa9\x00\xff"},
		{"a long text", func(w *Writer) { w.Text(long) }, "\xac\x02" + long},
		{"one behind another", func(w *Writer) {
			w.Text("a")
			w.Byte(9)
			w.Bool(true)
			w.Int(-3)
			w.Uint(300)
			w.Text("")
			w.Bool(false)
		}, "\x01a\x09\x01\x05\xac\x02\x00\x00"},
	} {
		if got := written(c.put); string(got) != c.want {
			t.Errorf("P3.1: %s is encoded as %x, want %x", c.about, got, c.want)
		}
	}
}

// TestWriterBytes asks for everything after each call, and twice: asking takes nothing away.
func TestWriterBytes(t *testing.T) {
	var w Writer
	var want []byte
	for i := range 600 {
		w.Byte(byte(i))
		want = append(want, byte(i))
		if !bytes.Equal(w.Bytes(), want) || !bytes.Equal(w.Bytes(), want) {
			t.Fatalf("P3.1: after %d bytes: %x", i+1, w.Bytes())
		}
	}
}

// TestNumbers puts numbers and takes them, and holds the bytes between against the library's.
func TestNumbers(t *testing.T) {
	for _, n := range numbers() {
		b := written(func(w *Writer) { w.Uint(n) })
		if !bytes.Equal(b, binary.AppendUvarint(nil, n)) {
			t.Errorf("P3.1: Uint(%d) is %x", n, b)
		}
		r := Read(b)
		if got := r.Uint(); got != n || r.Done() != api.OK {
			t.Errorf("P3.2: Uint of %x is %d, %d", b, got, r.Err())
		}
		r = Read(b)
		if got := r.Count(n); got != n || r.Done() != api.OK {
			t.Errorf("P3.2: Count(%d) of itself is %d, %d", n, got, r.Err())
		}
		i := int64(n)
		b = written(func(w *Writer) { w.Int(i) })
		if !bytes.Equal(b, binary.AppendVarint(nil, i)) {
			t.Errorf("P3.1: Int(%d) is %x", i, b)
		}
		r = Read(b)
		if got := r.Int(); got != i || r.Done() != api.OK {
			t.Errorf("P3.2: Int of %x is %d, %d", b, got, r.Err())
		}
	}
}

// TestEachKind puts things of each kind one behind the other, and takes them.
func TestEachKind(t *testing.T) {
	b := written(func(w *Writer) {
		w.Byte(0xb7)
		w.Uint(300)
		w.Int(-300)
		w.Bool(true)
		w.Bool(false)
		w.Text("host")
		w.Text("")
		w.Uint(8)
		w.Byte(1)
	})
	r := Read(b)
	if r.Left() != len(b) || r.Err() != api.OK {
		t.Error("P3.2: a new reader has not everything left")
	}
	if r.Byte() != 0xb7 || r.Uint() != 300 || r.Int() != -300 || !r.Bool() || r.Bool() || r.Text(4) != "host" || r.Text(0) != "" || r.Count(8) != 8 {
		t.Error("P3.2: what was put is not what is taken")
	}
	wantLeft(t, "ahead of the last byte", r, 1, api.OK)
	if r.Byte() != 1 || r.Done() != api.OK || r.Done() != api.OK {
		t.Error("P3.2: the end")
	}
	wantLeft(t, "at the end", r, 0, api.OK)
}

// TestLeft: each thing that is taken leaves what is behind it.
func TestLeft(t *testing.T) {
	for _, c := range []struct {
		about string
		put   func(w *Writer)
		take  func(r *Reader)
	}{
		{"Byte", func(w *Writer) { w.Byte(7) }, func(r *Reader) { r.Byte() }},
		{"Uint", func(w *Writer) { w.Uint(1 << 60) }, func(r *Reader) { r.Uint() }},
		{"Int", func(w *Writer) { w.Int(-1 << 60) }, func(r *Reader) { r.Int() }},
		{"Bool", func(w *Writer) { w.Bool(true) }, func(r *Reader) { r.Bool() }},
		{"Text", func(w *Writer) { w.Text("host") }, func(r *Reader) { r.Text(16) }},
		{"Text of no bytes", func(w *Writer) { w.Text("") }, func(r *Reader) { r.Text(16) }},
		{"Count", func(w *Writer) { w.Uint(500) }, func(r *Reader) { r.Count(501) }},
		{"Err and Left", func(w *Writer) {}, func(r *Reader) { r.Err(); r.Left(); r.Fail(api.OK) }},
	} {
		r := Read(append(written(c.put), 0x81, 0x02))
		c.take(r)
		wantLeft(t, c.about, r, 2, api.OK)
		if r.Byte() != 0x81 || r.Byte() != 0x02 || r.Done() != api.OK {
			t.Errorf("P3.2: what is left behind %s", c.about)
		}
	}
}

func TestReadByte(t *testing.T) {
	for n := range 256 {
		r := Read([]byte{byte(n)})
		if c := r.Byte(); c != byte(n) || r.Done() != api.OK {
			t.Errorf("P3.2: Byte of %02x is %02x, %d", n, c, r.Err())
		}
		if c := r.Byte(); c != 0 || r.Err() != api.ErrShort {
			t.Errorf("P3.2: Byte of nothing is %02x, %d", c, r.Err())
		}
	}
}

func TestReadBool(t *testing.T) {
	for n := range 256 {
		r, want := Read([]byte{byte(n), 1}), api.ErrForm
		if n < 2 {
			want = api.OK
		}
		if is := r.Bool(); is != (n == 1) || r.Err() != want {
			t.Errorf("P3.2: Bool of %02x is %v, %d", n, is, r.Err())
		}
	}
	r := Read(nil)
	if r.Bool() || r.Err() != api.ErrShort {
		t.Errorf("P3.2: Bool of nothing: %d", r.Err())
	}
}

func TestReadUint(t *testing.T) {
	nine := strings.Repeat("\x80", 9)
	for _, c := range []struct {
		about, b string
		n        uint64
		e        api.Errno
	}{
		{"300", "\xac\x02", 300, api.OK},
		{"0", "\x00", 0, api.OK},
		{"2^64-1", strings.Repeat("\xff", 9) + "\x01", math.MaxUint64, api.OK},
		{"2^63", nine + "\x01", 1 << 63, api.OK},
		{"nothing", "", 0, api.ErrShort},
		{"a first byte alone", "\x80", 0, api.ErrShort},
		{"a first byte of ones alone", "\xff", 0, api.ErrShort},
		{"nine bytes, the tenth missing", nine, 0, api.ErrShort},
		{"a tenth byte of 2", nine + "\x02", 0, api.ErrRange},
		{"a tenth byte of 127", nine + "\x7f", 0, api.ErrRange},
		{"a tenth byte of 128", nine + "\x80", 0, api.ErrRange},
		{"a tenth byte of 129", nine + "\x81\x00", 0, api.ErrRange},
		{"eleven bytes", nine + "\x80\x00", 0, api.ErrRange},
		{"a tenth byte of 0", nine + "\x00", 0, api.ErrForm},
		{"2^63-1 in ten bytes", strings.Repeat("\xff", 9) + "\x00", 0, api.ErrForm},
		{"0 in two bytes", "\x80\x00", 0, api.ErrForm},
		{"0 in three bytes", "\x80\x80\x00", 0, api.ErrForm},
		{"1 in two bytes", "\x81\x00", 0, api.ErrForm},
		{"127 in two bytes", "\xff\x00", 0, api.ErrForm},
		{"300 in three bytes", "\xac\x82\x00", 0, api.ErrForm},
		{"0 ahead of other bytes", "\x00\x80\x00", 0, api.OK},
		{"128 with a byte of 0 within", "\x80\x80\x01", 1 << 14, api.OK},
	} {
		r := Read([]byte(c.b))
		if n := r.Uint(); n != c.n || r.Err() != c.e {
			t.Errorf("P3.2: Uint of %s: %d, %d, want %d, %d", c.about, n, r.Err(), c.n, c.e)
		}
	}
}

// ask reads any bytes as a number of each kind, and as a text's length, and holds the answers against the chapter's words.
func ask(t *testing.T, b []byte) {
	t.Helper()
	want, used, e := wantUint(b)
	left := len(b) - used
	if e != api.OK {
		left = 0
	}
	r := Read(b)
	if n := r.Uint(); n != want || r.Err() != e || r.Left() != left {
		t.Errorf("P3.2: Uint of %x: %d, %d, %d bytes left, want %d, %d, %d", b, n, r.Err(), r.Left(), want, e, left)
	}
	if e == api.OK && !bytes.Equal(written(func(w *Writer) { w.Uint(want) }), b[:used]) {
		t.Errorf("P3.1: Uint(%d) isn't %x", want, b[:used])
	}
	r = Read(b)
	if n := r.Count(math.MaxUint64); n != want || r.Err() != e || r.Left() != left {
		t.Errorf("P3.2: Count of %x: %d, %d, %d bytes left, want %d, %d, %d", b, n, r.Err(), r.Left(), want, e, left)
	}
	signed := int64(want / 2)
	if want%2 == 1 {
		signed = -signed - 1
	}
	r = Read(b)
	if n := r.Int(); n != signed || r.Err() != e || r.Left() != left {
		t.Errorf("P3.2: Int of %x: %d, %d, %d bytes left, want %d, %d, %d", b, n, r.Err(), r.Left(), signed, e, left)
	}
	askText(t, b, 8, want, used, e)
}

// askText reads bytes as a text whose length was read otherwise.
func askText(t *testing.T, b []byte, most int, length uint64, used int, e api.Errno) {
	t.Helper()
	want, left := "", 0
	switch {
	case e != api.OK:
	case length > uint64(most):
		e = api.ErrLong
	case length > uint64(len(b)-used):
		e = api.ErrShort
	default:
		want, left = string(b[used:used+int(length)]), len(b)-used-int(length)
	}
	r := Read(b)
	if s := r.Text(most); s != want || r.Err() != e || r.Left() != left {
		t.Errorf("P3.2: Text(%d) of %x: %q, %d, %d bytes left, want %q, %d, %d", most, b, s, r.Err(), r.Left(), want, e, left)
	}
}

// TestAnyBytes reads any bytes as numbers: all of up to two bytes, and of longer ones those that differ where it matters.
func TestAnyBytes(t *testing.T) {
	ask(t, nil)
	for c := range 256 {
		ask(t, []byte{byte(c)})
		for d := range 256 {
			ask(t, []byte{byte(c), byte(d)})
		}
	}
	for n := range 13 {
		for _, c := range []byte{0x80, 0x81, 0xfe, 0xff} {
			ahead := bytes.Repeat([]byte{c}, n)
			for d := range 256 {
				ask(t, append(bytes.Clone(ahead), byte(d)))
				ask(t, append(bytes.Clone(ahead), byte(d), 0))
				ask(t, append(bytes.Clone(ahead), byte(d), 1))
			}
		}
	}
	r := rand.New(rand.NewSource(2))
	for range 20000 {
		b := make([]byte, r.Intn(14))
		r.Read(b)
		for i := range b {
			if r.Intn(4) > 0 {
				b[i] |= 0x80
			}
		}
		ask(t, b)
	}
}

func TestReadText(t *testing.T) {
	huge := strings.Repeat("\xff", 9) + "\x01"
	for _, c := range []struct {
		about, b string
		most     int
		want     string
		left     int
		e        api.Errno
	}{
		{"a text", "\x03web!", 16, "web", 1, api.OK},
		{"a text of the most bytes", "\x03web", 3, "web", 0, api.OK},
		{"a text of bytes that are no characters", "\x03\xff\x00\xc3", 3, "\xff\x00\xc3", 0, api.OK},
		{"no text", "\x00", 16, "", 0, api.OK},
		{"no text, none allowed", "\x00a", 0, "", 1, api.OK},
		{"no text, less than none allowed", "\x00a", -1, "", 1, api.OK},
		{"no text, far less than none allowed", "\x00a", math.MinInt, "", 1, api.OK},
		{"any text", "\x03web", math.MaxInt, "web", 0, api.OK},
		{"a byte more than the most", "\x04webs", 3, "", 0, api.ErrLong},
		{"one byte, none allowed", "\x01a", 0, "", 0, api.ErrLong},
		{"one byte, less than none allowed", "\x01a", -1, "", 0, api.ErrLong},
		{"one byte, far less than none allowed", "\x01a", math.MinInt, "", 0, api.ErrLong},
		{"a byte short", "\x03we", 3, "", 0, api.ErrShort},
		{"all bytes short", "\x03", 3, "", 0, api.ErrShort},
		{"R2: too long, and short", "\x04we", 3, "", 0, api.ErrLong},
		{"too long by far, and short", huge, 3, "", 0, api.ErrLong},
		{"too long for an int", huge + "abc", math.MaxInt, "", 0, api.ErrLong},
		{"2^63 bytes", strings.Repeat("\x80", 9) + "\x01abc", math.MaxInt, "", 0, api.ErrLong},
		{"2^63-1 bytes", strings.Repeat("\xff", 8) + "\x7fabc", math.MaxInt, "", 0, api.ErrShort},
		{"2^32 bytes and one", "\x81\x80\x80\x80\x10a", math.MaxInt, "", 0, api.ErrShort},
		{"no length", "", 3, "", 0, api.ErrShort},
		{"half a length", "\x83", 3, "", 0, api.ErrShort},
		{"a length in too many bytes", "\x83\x00web", 3, "", 0, api.ErrForm},
		{"a length above all numbers", strings.Repeat("\xff", 9) + "\x02", 3, "", 0, api.ErrRange},
	} {
		r := Read([]byte(c.b))
		if got := r.Text(c.most); got != c.want || r.Err() != c.e || r.Left() != c.left {
			t.Errorf("P3.2: Text of %s: %q, %d, %d bytes left, want %q, %d, %d", c.about, got, r.Err(), r.Left(), c.want, c.e, c.left)
		}
	}
}

func TestReadCount(t *testing.T) {
	for _, c := range []struct {
		about, b   string
		most, want uint64
		e          api.Errno
	}{
		{"less than the most", "\x07", 8, 7, api.OK},
		{"the most", "\x08", 8, 8, api.OK},
		{"one more", "\x09", 8, 0, api.ErrRange},
		{"0 of 0", "\x00", 0, 0, api.OK},
		{"1 of 0", "\x01", 0, 0, api.ErrRange},
		{"2^40", "\x80\x80\x80\x80\x80\x20", api.MaxNumber, api.MaxNumber, api.OK},
		{"2^40 and one", "\x81\x80\x80\x80\x80\x20", api.MaxNumber, 0, api.ErrRange},
		{"the greatest number", strings.Repeat("\xff", 9) + "\x01", math.MaxUint64, math.MaxUint64, api.OK},
		{"the greatest number, of one less", strings.Repeat("\xff", 9) + "\x01", math.MaxUint64 - 1, 0, api.ErrRange},
		{"nothing", "", 8, 0, api.ErrShort},
		{"half a number", "\xff", 8, 0, api.ErrShort},
		{"R2: one in too many bytes that is too great", "\xff\x00", 8, 0, api.ErrForm},
		{"above all numbers", strings.Repeat("\xff", 10), math.MaxUint64, 0, api.ErrRange},
	} {
		r := Read([]byte(c.b))
		if got := r.Count(c.most); got != c.want || r.Err() != c.e {
			t.Errorf("P3.2: Count of %s: %d, %d, want %d, %d", c.about, got, r.Err(), c.want, c.e)
		}
	}
}

// failures makes a reader fail in each way, with bytes behind the place where it fails that could be read.
func failures() map[string]func() (*Reader, api.Errno) {
	from := func(b string, e api.Errno, take func(r *Reader)) func() (*Reader, api.Errno) {
		return func() (*Reader, api.Errno) {
			r := Read([]byte(b + "\x01\x01\x01"))
			take(r)
			return r, e
		}
	}
	return map[string]func() (*Reader, api.Errno){
		"Byte's":          from("", api.ErrShort, func(r *Reader) { r.Byte(); r.Byte(); r.Byte(); r.Byte() }),
		"Uint's ErrShort": from("", api.ErrShort, func(r *Reader) { r.Uint(); r.Uint(); r.Uint(); r.Uint() }),
		"Uint's ErrRange": from(strings.Repeat("\x80", 9)+"\x02", api.ErrRange, func(r *Reader) { r.Uint() }),
		"Uint's ErrForm":  from("\x80\x00", api.ErrForm, func(r *Reader) { r.Uint() }),
		"Int's":           from("\x80\x00", api.ErrForm, func(r *Reader) { r.Int() }),
		"Bool's":          from("\x02", api.ErrForm, func(r *Reader) { r.Bool() }),
		"Text's Uint's":   from("\x80\x00", api.ErrForm, func(r *Reader) { r.Text(9) }),
		"Text's ErrLong":  from("\x02", api.ErrLong, func(r *Reader) { r.Text(1) }),
		"Text's ErrShort": from("\x04", api.ErrShort, func(r *Reader) { r.Text(9) }),
		"Count's Uint's":  from("\x80\x00", api.ErrForm, func(r *Reader) { r.Count(9) }),
		"Count's":         from("\x09", api.ErrRange, func(r *Reader) { r.Count(8) }),
		"Done's":          from("", api.ErrRest, func(r *Reader) { r.Done() }),
		"Fail's":          from("", api.ErrWord, func(r *Reader) { r.Fail(api.ErrWord) }),
		"a negative one":  from("", -7, func(r *Reader) { r.Fail(-7) }),
	}
}

// TestFirstErrorStays: behind an error, whichever it is, nothing is left, whatever is read is zero, and no other error takes its place.
func TestFirstErrorStays(t *testing.T) {
	for about, fail := range failures() {
		for _, next := range []struct {
			about string
			zero  func(r *Reader) bool
		}{
			{"Byte", func(r *Reader) bool { return r.Byte() == 0 }},
			{"Uint", func(r *Reader) bool { return r.Uint() == 0 }},
			{"Int", func(r *Reader) bool { return r.Int() == 0 }},
			{"Bool", func(r *Reader) bool { return !r.Bool() }},
			{"Text", func(r *Reader) bool { return r.Text(9) == "" }},
			{"Text of no bytes", func(r *Reader) bool { return r.Text(-1) == "" }},
			{"Count", func(r *Reader) bool { return r.Count(9) == 0 }},
			{"Fail", func(r *Reader) bool { r.Fail(api.ErrMagic); return true }},
			{"Fail with no error", func(r *Reader) bool { r.Fail(api.OK); return true }},
			{"Left", func(r *Reader) bool { return r.Left() == 0 }},
		} {
			r, want := fail()
			wantLeft(t, "behind "+about, r, 0, want)
			for range 2 {
				if !next.zero(r) {
					t.Errorf("P3.2: %s behind %s error isn't zero", next.about, about)
				}
				wantLeft(t, next.about+" behind "+about+" error", r, 0, want)
			}
			if e := r.Done(); e != want {
				t.Errorf("P3.2: Done behind %s error: %d, want %d", about, e, want)
			}
		}
	}
}

func TestFail(t *testing.T) {
	r := Read([]byte("\x05\x06"))
	r.Fail(api.OK)
	if r.Byte() != 5 {
		t.Error("P3.2: Fail with no error changes something")
	}
	wantLeft(t, "Fail with no error", r, 1, api.OK)
	r.Fail(api.ErrName)
	wantLeft(t, "Fail", r, 0, api.ErrName)
	r.Fail(api.ErrRule)
	wantLeft(t, "Fail again", r, 0, api.ErrName)
	if r.Byte() != 0 || r.Done() != api.ErrName {
		t.Error("P3.2: Fail doesn't stay")
	}
}

func TestDone(t *testing.T) {
	for _, c := range []struct {
		about, b string
		want     api.Errno
	}{
		{"everything read", "\x01", api.OK},
		{"a byte left", "\x01\x00", api.ErrRest},
		{"many left", "\x01" + strings.Repeat("\x80", 300), api.ErrRest},
		{"an error ahead, nothing left", "", api.ErrShort},
		{"an error ahead, bytes left", "\x02\x01", api.ErrForm},
	} {
		r := Read([]byte(c.b))
		r.Bool()
		for range 2 {
			if e := r.Done(); e != c.want || r.Err() != c.want {
				t.Errorf("P3.2: Done with %s: %d, then %d, want %d", c.about, e, r.Err(), c.want)
			}
		}
		wantLeft(t, "Done with "+c.about, r, 0, c.want)
	}
	if e := Read(nil).Done(); e != api.OK {
		t.Errorf("P3.2: Done of no bytes: %d", e)
	}
	if e := Read([]byte{1}).Done(); e != api.ErrRest {
		t.Errorf("P3.2: Done of bytes that nobody read: %d", e)
	}
}
