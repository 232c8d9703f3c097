package crc

import (
	"bytes"
	"hash/crc32"
	"math"
	"math/rand"
	"slices"
	"testing"
)

// TestP1 calls everything with odd arguments, on tables that are new, used, zero and nil: every call ends without a panic.
func TestP1(t *testing.T) {
	r := rand.New(rand.NewSource(6))
	used := New()
	for range 3000 {
		b := make([]byte, r.Intn(12), 16)
		r.Read(b)
		for _, table := range []*Table{New(), used, {}, nil} {
			table.Add(r.Uint32(), b)
			table.Sum(b, nil, b[r.Intn(len(b)+1):])
			inner, ok := table.Open(b)
			if ok && !bytes.Equal(table.Seal(inner), b) {
				t.Errorf("P2.2: Open(%x) is %x", b, inner)
			}
			inner, ok = table.Open(table.Seal(b))
			if ok != (table != nil) || ok && !bytes.Equal(inner, b) {
				t.Errorf("P2.2: Open(Seal(%x)) is %x, %v", b, inner, ok)
			}
			table.Counts()
		}
		Take(Put(r.Uint32()))
	}
}

// TestP1Great gives great arguments: every call ends.
func TestP1Great(t *testing.T) {
	table, b := New(), someBytes(7, 1<<24)
	if table.Sum(b) != crc32.ChecksumIEEE(b) || table.Add(0, b) != crc32.ChecksumIEEE(b) {
		t.Error("P1: the sum of many bytes")
	}
	if inner, ok := table.Open(table.Seal(b)); !ok || !bytes.Equal(inner, b) {
		t.Error("P1: a seal of many bytes")
	}
	if inner, ok := table.Open(b); ok || len(inner) != 0 {
		t.Error("P1: many bytes without a seal")
	}
	wantCounts(t, "of many bytes", table, 4, 5<<24-4)
	parts := slices.Repeat([][]byte{{1, 2}, nil}, 1<<18)
	if table.Sum(parts...) != crc32.ChecksumIEEE(bytes.Repeat([]byte{1, 2}, 1<<18)) {
		t.Error("P1: the sum of many parts")
	}
	wantCounts(t, "of many parts", table, 5, 5<<24-4+1<<19)
}

func TestR1(t *testing.T) {
	if n := math.MaxInt; uint64(n) != 1<<63-1 {
		t.Error("R1: int hasn't 64 bits")
	}
}

// TestR3: beside false Open answers no bytes.
func TestR3(t *testing.T) {
	for _, b := range [][]byte{nil, {1}, {1, 2, 3}, {1, 2, 3, 4}, []byte("123456789"), make([]byte, 5)} {
		if got, ok := New().Open(b); got != nil || ok {
			t.Errorf("R3: Open(%x): %x, %v", b, got, ok)
		}
	}
	var none *Table
	if got, ok := none.Open(New().Seal([]byte("a"))); got != nil || ok {
		t.Errorf("R3: a nil table's Open: %x, %v", got, ok)
	}
}

// TestR4: an Open that is refused leaves the bytes and the answers of the table as they were.
func TestR4(t *testing.T) {
	table := New()
	for _, text := range []string{"", "123", "1234", "123456789"} {
		b := []byte(text)
		if _, ok := table.Open(b); ok || string(b) != text {
			t.Errorf("R4: Open(%q) leaves %q, %v", text, b, ok)
		}
		if table.Sum([]byte("123456789")) != 0xcbf43926 {
			t.Errorf("R4: Open(%q) changes the sums", text)
		}
	}
}

func TestR5(t *testing.T) {
	for _, table := range []*Table{New(), nil} {
		for _, b := range [][]byte{nil, {}} {
			if table.Sum(b) != 0 || table.Add(0, b) != 0 || !bytes.Equal(table.Seal(b), make([]byte, 4)) {
				t.Error("R5: an empty list of bytes")
			}
			if got, ok := table.Open(b); len(got) != 0 || ok {
				t.Error("R5: Open of an empty list of bytes")
			}
		}
		for _, parts := range [][][]byte{nil, {}} {
			if table.Sum(parts...) != 0 {
				t.Error("R5: an empty list of parts")
			}
		}
	}
}

// roomy lays bytes into a greater list, so that a write beside them, or an answer that shares their memory, can be seen.
func roomy(b []byte) (whole, part []byte) {
	whole = bytes.Repeat([]byte{0xee}, len(b)+20)
	copy(whole[4:], b)
	return whole, whole[4 : 4+len(b)]
}

// TestR6 calls everything that takes bytes: they stay as they were, their spare capacity too, and answers share no memory with them.
func TestR6(t *testing.T) {
	content := []byte("123456789")
	for _, table := range []*Table{New(), nil} {
		for _, c := range []struct {
			about string
			given []byte
			call  func(b []byte) []byte
		}{
			{"Add", content, func(b []byte) []byte { table.Add(1, b); return nil }},
			{"Sum", content, func(b []byte) []byte { table.Sum(b, b[:3]); return nil }},
			{"Seal", content, table.Seal},
			{"Seal of no bytes", nil, table.Seal},
			{"Open", New().Seal(content), func(b []byte) []byte { got, _ := table.Open(b); return got }},
			{"Open of the sum of no bytes", make([]byte, 4), func(b []byte) []byte { got, _ := table.Open(b); return got }},
			{"Open of what isn't sealed", content, func(b []byte) []byte { got, _ := table.Open(b); return got }},
		} {
			whole, part := roomy(c.given)
			old := slices.Clone(whole)
			got := c.call(part)
			if !bytes.Equal(whole, old) {
				t.Errorf("R6: %s changes its argument: %x", c.about, whole)
			}
			kept := slices.Clone(got)
			clear(whole)
			if !bytes.Equal(got, kept) {
				t.Errorf("R6: %s answers its argument's memory", c.about)
			}
			got = got[:cap(got)]
			for i := range got {
				got[i] = 0xdd
			}
			if slices.Max(whole) != 0 {
				t.Errorf("R6: what %s answers reaches into its argument", c.about)
			}
		}
	}
}

// TestR6Parts: the list of the parts stays as it was, too.
func TestR6Parts(t *testing.T) {
	all := [][]byte{[]byte("1234"), nil, []byte("56789"), []byte("spare")}
	if New().Sum(all[:3]...) != 0xcbf43926 {
		t.Error("P2.1: the sum of a list of parts")
	}
	if string(all[0]) != "1234" || all[1] != nil || string(all[2]) != "56789" || string(all[3]) != "spare" {
		t.Error("R6: Sum changes the list of its parts")
	}
}

// TestR6Answers: an answer isn't kept: what is done to one isn't seen in the next.
func TestR6Answers(t *testing.T) {
	table := New()
	sealed := table.Seal([]byte("123456789"))
	first, _ := table.Open(sealed)
	clear(first)
	second, ok := table.Open(sealed)
	if !ok || string(second) != "123456789" {
		t.Error("R6: Open keeps its answer")
	}
	clear(sealed)
	if string(table.Seal([]byte("123456789"))) != "123456789\x26\x39\xf4\xcb" {
		t.Error("R6: Seal keeps its answer")
	}
}

// TestR7: a nil table does nothing, and answers what the chapter says of it, else zero values.
func TestR7(t *testing.T) {
	var none *Table
	if none.Add(3, []byte("a")) != 0 || none.Sum([]byte("a")) != 0 || string(none.Seal([]byte("a"))) != "a\x00\x00\x00\x00" {
		t.Error("R7: sums of a nil table")
	}
	if got, ok := none.Open([]byte("\x00\x00\x00\x00")); got != nil || ok {
		t.Error("R7: Open of a nil table")
	}
	if sums, bytes := none.Counts(); sums != 0 || bytes != 0 {
		t.Error("R7: Counts of a nil table")
	}
}

// TestR8: what a table was asked ahead changes its counts alone, a zero table is as good as a new one, and no table knows of another.
func TestR8(t *testing.T) {
	b := []byte("123456789")
	used, zero := New(), &Table{}
	for _, ahead := range []func(){
		func() {},
		func() { used.Counts() },
		func() { used.Open(b) },
		func() { used.Open(nil) },
		func() { used.Add(0xffffffff, b) },
		func() { used.Sum(b, b, b) },
		func() { used.Seal(someBytes(8, 1000)) },
		func() { used.Open(used.Seal(b)) },
	} {
		ahead()
		for _, table := range []*Table{New(), used, zero} {
			inner, ok := table.Open([]byte("123456789\x26\x39\xf4\xcb"))
			if table.Sum(b) != 0xcbf43926 || table.Add(0xcbf43926, b) != wantSum(slices.Repeat(b, 2)) || string(inner) != "123456789" || !ok {
				t.Error("R8: a table's answers hang on what it was asked ahead")
			}
			if string(table.Seal(b)) != "123456789\x26\x39\xf4\xcb" {
				t.Error("R8: a table's seals hang on what it was asked ahead")
			}
		}
	}
	wantCounts(t, "of a new table beside used ones", New(), 0, 0)
}

// TestR8First: whichever call comes first on a table, its answer is right.
func TestR8First(t *testing.T) {
	b := []byte("123456789")
	if New().Add(0, b) != 0xcbf43926 || New().Sum(b) != 0xcbf43926 || string(New().Seal(b)) != "123456789\x26\x39\xf4\xcb" {
		t.Error("R8: a first sum")
	}
	if inner, ok := New().Open([]byte("123456789\x26\x39\xf4\xcb")); !ok || string(inner) != "123456789" {
		t.Error("R8: a first Open")
	}
	if inner, ok := New().Open(make([]byte, 9)); ok || inner != nil {
		t.Error("R8: a first Open that is refused")
	}
}
