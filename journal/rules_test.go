package journal

import (
	"bytes"
	"math"
	"math/rand"
	"slices"
	"testing"

	"watchfire/api"
	"watchfire/crc"
	"watchfire/disk"
)

// journals returns journals that are of no file, of one, of a name that is no value, of one that is missing behind a crash of all, zero and nil.
func journals() []*Journal {
	full, gone := onDisk("a", laid([]byte("x")), laid([]byte("y"))), onDisk("a", laid([]byte("x")), nil)
	all := []*Journal{{}, nil}
	for _, d := range []*disk.Disk{disk.New(), {}, full, gone, crowd(api.MaxFiles)} {
		for _, name := range []string{"a", "b", "A", ""} {
			j, _, _ := Open(d, crc.New(), name)
			all = append(all, j)
		}
	}
	gone.Remove("a")
	return all
}

// TestP1 calls everything with odd arguments: every call ends without a panic.
func TestP1(t *testing.T) {
	r := rand.New(rand.NewSource(3))
	all := journals()
	for range 4000 {
		b := make([]byte, r.Intn(40), 50)
		r.Read(b)
		if len(b) >= 4 && r.Intn(2) == 0 {
			copy(b, little(uint32(r.Intn(40))))
		}
		for _, table := range []*crc.Table{crc.New(), {}, nil} {
			Lay(table, b)
			got, n, ok := Take(table, b)
			if ok && n != 8+len(got) || !ok && (got != nil || n != 0) {
				t.Errorf("P7.1: Take(%x): %x, %d, %v", b, got, n, ok)
			}
			if _, n := Scan(table, b); n > len(b) {
				t.Errorf("P7.1: Scan(%x) finds %d bytes", b, n)
			}
			for _, d := range []*disk.Disk{disk.New(), {}, nil, onDisk("a", b, b)} {
				Open(d, table, []string{"a", "b", "", "A", string(b)}[r.Intn(5)])
			}
		}
		j := all[r.Intn(len(all))]
		j.Append(b)
		j.Sync()
		j.Size()
		j.Name()
	}
}

// TestP1Great gives great arguments: every call ends.
func TestP1Great(t *testing.T) {
	b := make([]byte, 1<<24)
	if got, e := Lay(crc.New(), b); got != nil || e != api.ErrLong {
		t.Errorf("P1: Lay of many bytes: %d", e)
	}
	wantNone(t, "many bytes", crc.New(), b)
	wantScanned(t, "very many records", bytes.Repeat(laid(nil), 1<<20), make([][]byte, 1<<20))
	many := make([][]byte, api.MaxFile/8)
	j := open(t, "of a file of very many records", onDisk("a", joined(many), nil), "a", many...)
	wantError(t, "P1: Append to a full file", j.Append(nil), api.ErrFull)
}

func TestR1(t *testing.T) {
	if n := math.MaxInt; uint64(n) != 1<<63-1 {
		t.Error("R1: int hasn't 64 bits")
	}
}

// TestR2: where several errors apply, the one that is named first is told.
func TestR2(t *testing.T) {
	long := make([]byte, great+1)
	_, e := Lay(nil, long)
	wantError(t, "R2: Lay without a table, too long", e, api.ErrNil)
	var none *Journal
	wantError(t, "R2: Append to no journal, too long", none.Append(long), api.ErrNil)
	wantError(t, "R2: Append to a zero journal, too long", new(Journal).Append(long), api.ErrNil)
	for about, j := range map[string]*Journal{
		"a name that is no value": open(t, "of a bad name", disk.New(), "A"),
		"a 65th file":             open(t, "of a 65th file", crowd(api.MaxFiles), "a"),
		"a full file":             open(t, "of a full file", onDisk("a", laid(someBytes(great)), laid(someBytes(great-16))), "a", someBytes(great), someBytes(great-16)),
	} {
		wantError(t, "R2: Append to "+about+", too long", j.Append(long), api.ErrLong)
	}
	j := open(t, "of a bad name", crowd(api.MaxFiles), "A")
	wantError(t, "R2: Append to a 65th file of a name that is no value", j.Append(nil), api.ErrName)
}

// TestR3: beside an error, or false, there is nothing at all.
func TestR3(t *testing.T) {
	for _, table := range []*crc.Table{crc.New(), nil} {
		for _, b := range [][]byte{make([]byte, great+1), make([]byte, 1<<20)} {
			if got, e := Lay(table, b); got != nil || e == api.OK {
				t.Errorf("R3: Lay: %d bytes, %d", len(got), e)
			}
		}
		for _, b := range [][]byte{nil, {1}, make([]byte, 7), make([]byte, 99), told(1, nil), told(2, []byte("abc")), laid([]byte("abc"))[:10]} {
			if got, n, ok := Take(table, b); got != nil || n != 0 || ok {
				t.Errorf("R3: Take(%x): %x, %d, %v", b, got, n, ok)
			}
		}
	}
	for _, d := range []*disk.Disk{onDisk("a", laid([]byte("x")), nil), nil} {
		if j, contents, e := Open(d, nil, "a"); j != nil || contents != nil || e != api.ErrNil {
			t.Errorf("R3: Open: %v, %x, %d", j, contents, e)
		}
	}
}

// TestR4: calls that are refused leave the disk, its counts, and the journal as they were; those that need no sum make none.
func TestR4(t *testing.T) {
	d, table := onDisk("a", laid([]byte("x")), nil), crc.New()
	j, _, _ := Open(d, table, "a")
	j.Append([]byte("loose"))
	j.Append(someBytes(great))
	whole := slices.Concat(laid([]byte("x")), laid([]byte("loose")), laid(someBytes(great)))
	writes, syncs := d.Counts()
	sums, over := table.Counts()
	for about, call := range map[string]func() api.Errno{
		"Append of a record that is too great": func() api.Errno { return j.Append(make([]byte, great+1)) },
		"Lay of a record that is too great":    func() api.Errno { _, e := Lay(table, make([]byte, great+1)); return e },
		"Open without a table":                 func() api.Errno { _, _, e := Open(d, nil, "a"); return e },
		"Open without a disk":                  func() api.Errno { _, _, e := Open(nil, table, "a"); return e },
	} {
		if call() == api.OK {
			t.Errorf("P7.2: %s is allowed", about)
		}
		wantFile(t, "R4: "+about, d, "a", whole, len(whole)-9)
		wantCounts(t, about, d, writes, syncs)
		if s, o := table.Counts(); s != sums || o != over {
			t.Errorf("R4: %s makes sums", about)
		}
	}
	wantError(t, "P7.2: Append to a file that is full", j.Append(someBytes(great)), api.ErrFull)
	wantFile(t, "R4: Append to a file that is full", d, "a", whole, len(whole)-9)
	wantCounts(t, "Append to a file that is full", d, writes, syncs)
	if j.Size() != len(whole) || j.Name() != "a" {
		t.Errorf("R4: %d bytes of %q", j.Size(), j.Name())
	}
}

func TestR5(t *testing.T) {
	for _, b := range [][]byte{nil, {}} {
		got, e := Lay(crc.New(), b)
		if e != api.OK || !bytes.Equal(got, laid(nil)) {
			t.Errorf("R5: Lay of an empty list: %x, %d", got, e)
		}
		wantNone(t, "an empty list", crc.New(), b)
		d := disk.New()
		wantError(t, "R5: Append of an empty list", open(t, "of no file", d, "a").Append(b), api.OK)
		wantFile(t, "R5: Append of an empty list", d, "a", laid(nil), 8)
	}
}

// roomy lays bytes into a greater list, so that a write beside them can be seen.
func roomy(b []byte) (whole, part []byte) {
	whole = bytes.Repeat([]byte{0xee}, len(b)+20)
	copy(whole[4:], b)
	return whole, whole[4 : 4+len(b)]
}

// TestR6Arguments: bytes that are handed in stay as they are, with what lies around them, and none of them is kept.
func TestR6Arguments(t *testing.T) {
	for _, b := range [][]byte{nil, []byte("x"), []byte("content"), laid([]byte("one")), joined([][]byte{[]byte("one"), nil, []byte("two")}), laid([]byte("cut"))[:10]} {
		whole, part := roomy(b)
		was := slices.Clone(whole)
		d := disk.New()
		j := open(t, "of no file", d, "a")
		record, _ := Lay(crc.New(), part)
		content, _, _ := Take(crc.New(), part)
		contents, _ := Scan(crc.New(), part)
		j.Append(part)
		Lay(nil, part)
		Take(nil, part)
		Scan(nil, part)
		if !bytes.Equal(whole, was) {
			t.Errorf("R6: an argument is changed: %x", whole)
		}
		wantContent, _, _ := Take(crc.New(), b)
		wantContents, _ := Scan(crc.New(), b)
		clear(whole)
		if !bytes.Equal(record, laid(b)) || !bytes.Equal(content, wantContent) || !same(contents, wantContents) {
			t.Errorf("R6: answers share memory with their argument: %x, %x, %x", record, content, contents)
		}
		wantFile(t, "R6: what was appended is changed", d, "a", laid(b), 8+len(b))
	}
}

// spoil writes over a list's bytes and over its spare capacity.
func spoil(b []byte) {
	for i := range b[:cap(b)] {
		b[:cap(b)][i] = 0xdd
	}
}

// TestR6Results: each content that is answered is the caller's: what is done to it is seen neither in the bytes, nor in the others, nor in the file.
func TestR6Results(t *testing.T) {
	contents := [][]byte{[]byte("one"), nil, []byte("three"), []byte("4")}
	all := joined(contents)
	b := slices.Clone(all)
	d := onDisk("a", all, nil)
	j, opened, _ := Open(d, crc.New(), "a")
	scanned, _ := Scan(crc.New(), b)
	taken, _, _ := Take(crc.New(), b)
	record, _ := Lay(crc.New(), contents[0])
	for i := range contents {
		if !same(opened[i:], contents[i:]) || !same(scanned[i:], contents[i:]) {
			t.Fatalf("R6: contents share memory: %q, %q", opened, scanned)
		}
		spoil(opened[i])
		spoil(scanned[i])
	}
	spoil(taken)
	spoil(record)
	if !bytes.Equal(b, all) || string(contents[0]) != "one" {
		t.Errorf("R6: an answer reaches into its argument: %x", b)
	}
	wantFile(t, "R6: contents that were opened are changed", d, "a", all, 0)
	wantError(t, "R6: Append behind a change", j.Append([]byte("5")), api.OK)
	open(t, "behind a change", d, "a", append(contents, []byte("5"))...)
}

// TestR7: a nil journal does nothing.
func TestR7(t *testing.T) {
	var j *Journal
	for _, b := range [][]byte{nil, []byte("x"), make([]byte, great+1)} {
		wantError(t, "R7: Append to a nil journal", j.Append(b), api.ErrNil)
	}
	wantError(t, "R7: Sync of a nil journal", j.Sync(), api.ErrNil)
	if j.Size() != 0 || j.Name() != "" {
		t.Errorf("R7: a nil journal has %d bytes, and the name %q", j.Size(), j.Name())
	}
}

// TestZero: the zero journal has neither disk nor table, and stays without a file.
func TestZero(t *testing.T) {
	var j Journal
	wantError(t, "P7.2: Append to the zero journal", j.Append([]byte("x")), api.ErrNil)
	j.Sync()
	if j.Size() != 0 || j.Name() != "" {
		t.Errorf("P7.2: the zero journal has %d bytes, and the name %q", j.Size(), j.Name())
	}
}

// TestTables: records of one table are records to any other one, also to the zero one.
func TestTables(t *testing.T) {
	d := disk.New()
	for i, table := range []*crc.Table{crc.New(), {}, crc.New()} {
		j, contents, e := Open(d, table, "a")
		if e != api.OK || len(contents) != i {
			t.Fatalf("P7.2: Open with another table: %x, %d", contents, e)
		}
		wantError(t, "P7.2: Append with another table", j.Append([]byte{byte(i)}), api.OK)
	}
	open(t, "with another table", d, "a", []byte{0}, []byte{1}, []byte{2})
}

// TestR8: the same calls have the same answers, whatever other journals are asked between them.
func TestR8(t *testing.T) {
	for seed := range int64(20) {
		r, again, other := rand.New(rand.NewSource(seed)), rand.New(rand.NewSource(seed)), rand.New(rand.NewSource(seed+1000))
		d, e, beside := disk.New(), disk.New(), disk.New()
		p := []pair{{open(t, "of no file", d, "a"), &model{}}}
		q := []pair{{open(t, "of no file", e, "a"), &model{}}}
		o := []pair{{open(t, "of no file", beside, "a"), &model{}}}
		for i := range 100 {
			p[0].step(t, r, d)
			o[0].step(t, other, beside)
			q[0].step(t, again, e)
			if i%20 == 19 {
				crash(t, r, d, p)
				crash(t, other, beside, o)
				crash(t, again, e, q)
			}
		}
		first, _ := d.Read("a")
		second, _ := e.Read("a")
		if !bytes.Equal(first, second) || p[0].j.Size() != q[0].j.Size() || d.Loose("a") != e.Loose("a") {
			t.Errorf("R8: the same calls leave %x and %x", first, second)
		}
	}
}
