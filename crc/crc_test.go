package crc

import (
	"bytes"
	"hash/crc32"
	"math/rand"
	"slices"
	"sync"
	"testing"
)

// wantSum works a sum out by the chapter's words, bit by bit.
func wantSum(b []byte) uint32 {
	register := uint32(0xffffffff)
	for _, c := range b {
		register ^= uint32(c)
		for range 8 {
			out := register&1 == 1
			register = register >> 1
			if out {
				register = register ^ 0xedb88320
			}
		}
	}
	return register ^ 0xffffffff
}

// someBytes makes n bytes that look like nothing.
func someBytes(seed int64, n int) []byte {
	b := make([]byte, n)
	rand.New(rand.NewSource(seed)).Read(b)
	return b
}

// wantCounts holds a table's counts against what they must be.
func wantCounts(t *testing.T, about string, table *Table, sums, bytes uint64) {
	t.Helper()
	if s, b := table.Counts(); s != sums || b != bytes {
		t.Errorf("P2.1: counts %s: %d, %d, want %d, %d", about, s, b, sums, bytes)
	}
}

func TestSum(t *testing.T) {
	for _, c := range []struct {
		text string
		want uint32
	}{
		{"", 0},
		{"123456789", 0xcbf43926},
		{"a", 0xe8b7be43},
		{"abc", 0x352441c2},
		{"\x00", 0xd202ef8d},
		{"\xff", 0xff000000},
		{"\x00\x00\x00\x00", 0x2144df1c},
		{"\xff\xff\xff\xff", 0xffffffff},
		{"The quick brown fox jumps over the lazy dog", 0x414fa339},
	} {
		if got := New().Sum([]byte(c.text)); got != c.want {
			t.Errorf("P2.1: the sum of %q is %08x, want %08x", c.text, got, c.want)
		}
	}
}

// TestSumOfEveryLength holds sums of all lengths, and of each byte, against the chapter's words and against the library.
func TestSumOfEveryLength(t *testing.T) {
	table, all := New(), someBytes(1, 700)
	for n := range len(all) + 1 {
		b := all[:n]
		if got := table.Sum(b); got != wantSum(b) || got != crc32.ChecksumIEEE(b) {
			t.Fatalf("P2.1: the sum of %d bytes is %08x, want %08x", n, got, wantSum(b))
		}
	}
	for c := range 256 {
		for _, b := range [][]byte{{byte(c)}, {'x', byte(c)}, {byte(c), byte(c), 'x'}} {
			if got := table.Sum(b); got != wantSum(b) {
				t.Errorf("P2.1: the sum of %x is %08x, want %08x", b, got, wantSum(b))
			}
		}
	}
}

func TestSumOfParts(t *testing.T) {
	table, b := New(), []byte("123456789")
	for i := range len(b) + 1 {
		for j := i; j <= len(b); j++ {
			if got := table.Sum(b[:i], b[i:j], b[j:]); got != 0xcbf43926 {
				t.Errorf("P2.1: the sum of %q, %q and %q is %08x", b[:i], b[i:j], b[j:], got)
			}
		}
	}
	if got := table.Sum(nil, []byte("1234"), []byte{}, nil, []byte("56789"), nil); got != 0xcbf43926 {
		t.Errorf("P2.1: the sum of parts with empty ones between is %08x", got)
	}
	if table.Sum() != 0 || table.Sum(nil) != 0 || table.Sum([]byte{}, nil, []byte{}) != 0 {
		t.Error("P2.1: the sum of no bytes isn't 0")
	}
	if table.Sum(b, b) != wantSum([]byte("123456789123456789")) {
		t.Error("P2.1: the sum of the same part twice")
	}
	if table.Sum([]byte("a"), []byte("b")) == table.Sum([]byte("b"), []byte("a")) {
		t.Error("P2.1: parts in another order have the same sum")
	}
}

func TestAdd(t *testing.T) {
	table, b := New(), someBytes(2, 100)
	for i := range len(b) + 1 {
		for _, j := range []int{i, i + 1, i + 2, len(b)} {
			j = min(j, len(b))
			if got := table.Add(wantSum(b[:i]), b[i:j]); got != wantSum(b[:j]) {
				t.Errorf("P2.1: Add of %d bytes behind %d is %08x, want %08x", j-i, i, got, wantSum(b[:j]))
			}
		}
	}
	if got := table.Add(0, []byte("123456789")); got != 0xcbf43926 {
		t.Errorf("P2.1: Add to the sum of no bytes is %08x", got)
	}
}

// TestAddToAnySum: each number is the sum of some bytes.
func TestAddToAnySum(t *testing.T) {
	table, r := New(), rand.New(rand.NewSource(3))
	sums := []uint32{0, 1, 0x80000000, 0xffffffff, 0xcbf43926, 0xedb88320}
	for range 500 {
		sums = append(sums, r.Uint32())
	}
	for _, sum := range sums {
		if table.Add(sum, nil) != sum || table.Add(sum, []byte{}) != sum {
			t.Errorf("P2.1: Add of no bytes changes %08x", sum)
		}
		b := someBytes(int64(sum), r.Intn(20))
		if got := table.Add(sum, b); got != crc32.Update(sum, crc32.IEEETable, b) {
			t.Errorf("P2.1: Add of %x to %08x is %08x", b, sum, got)
		}
	}
}

// TestCounts calls one thing after another, and asks for the counts after each.
func TestCounts(t *testing.T) {
	table, b := New(), []byte("123456789")
	sealed := New().Seal(b)
	wantCounts(t, "of a new table", table, 0, 0)
	for _, c := range []struct {
		about       string
		call        func()
		sums, bytes uint64
	}{
		{"Sum", func() { table.Sum(b) }, 1, 9},
		{"Sum of parts", func() { table.Sum(b, b[:4], nil, b[:1]) }, 2, 23},
		{"Sum of no parts", func() { table.Sum() }, 3, 23},
		{"Sum of no bytes", func() { table.Sum(nil, []byte{}) }, 4, 23},
		{"Add", func() { table.Add(7, b) }, 4, 32},
		{"Add of no bytes", func() { table.Add(7, nil) }, 4, 32},
		{"Seal", func() { table.Seal(b[:5]) }, 5, 37},
		{"Seal of no bytes", func() { table.Seal(nil) }, 6, 37},
		{"Open", func() { table.Open(sealed) }, 7, 46},
		{"Open of what isn't sealed", func() { table.Open(b) }, 8, 51},
		{"Open of four bytes", func() { table.Open(b[:4]) }, 9, 51},
		{"Open of three bytes", func() { table.Open(b[:3]) }, 9, 51},
		{"Open of no bytes", func() { table.Open(nil) }, 9, 51},
		{"Put and Take", func() { Take(Put(9)) }, 9, 51},
		{"Counts", func() { table.Counts() }, 9, 51},
	} {
		c.call()
		wantCounts(t, "after "+c.about, table, c.sums, c.bytes)
	}
	wantCounts(t, "of another table", New(), 0, 0)
}

// TestTogether: goroutines that use one new table at the same time get right answers, and no call is lost in the counts.
func TestTogether(t *testing.T) {
	table, b := New(), []byte("123456789")
	sealed := New().Seal(b)
	var all sync.WaitGroup
	for range 16 {
		all.Go(func() {
			for range 200 {
				inner, ok := table.Open(table.Seal(b))
				if table.Sum(b) != 0xcbf43926 || table.Add(0, b) != 0xcbf43926 || !ok || !bytes.Equal(inner, b) {
					t.Error("P2.1: a wrong answer beside other goroutines")
				}
				if !bytes.Equal(table.Seal(b), sealed) {
					t.Error("P2.2: a wrong seal beside other goroutines")
				}
			}
		})
	}
	all.Wait()
	wantCounts(t, "of goroutines", table, 16*200*4, 16*200*5*9)
}

// TestNil: a nil table makes no sums, whatever it is given.
func TestNil(t *testing.T) {
	var none *Table
	b := []byte("123456789")
	if none.Sum() != 0 || none.Sum(nil) != 0 || none.Sum(b, b) != 0 || none.Add(0, b) != 0 || none.Add(0xcbf43926, b) != 0 || none.Add(5, nil) != 0 {
		t.Error("P2.1: a sum of a nil table isn't 0")
	}
	for _, b := range [][]byte{nil, {}, b, make([]byte, 9, 99)} {
		got, want := none.Seal(b), append(slices.Clone(b), 0, 0, 0, 0)
		if !bytes.Equal(got, want) {
			t.Errorf("P2.1: a nil table seals %x as %x", b, got)
		}
		if inner, ok := none.Open(got); len(inner) != 0 || ok {
			t.Errorf("P2.1: a nil table opens %x", got)
		}
		if inner, ok := none.Open(New().Seal(b)); len(inner) != 0 || ok {
			t.Errorf("P2.1: a nil table opens what another one sealed")
		}
	}
	if inner, ok := none.Open(nil); len(inner) != 0 || ok {
		t.Error("P2.1: a nil table opens nothing")
	}
	wantCounts(t, "of a nil table", none, 0, 0)
}

func TestPutTake(t *testing.T) {
	for _, c := range []struct {
		sum uint32
		b   [4]byte
	}{
		{0, [4]byte{}},
		{1, [4]byte{1, 0, 0, 0}},
		{0x100, [4]byte{0, 1, 0, 0}},
		{0x01000000, [4]byte{0, 0, 0, 1}},
		{0x80000000, [4]byte{0, 0, 0, 0x80}},
		{0xcbf43926, [4]byte{0x26, 0x39, 0xf4, 0xcb}},
		{0xffffffff, [4]byte{0xff, 0xff, 0xff, 0xff}},
	} {
		if Put(c.sum) != c.b || Take(c.b) != c.sum {
			t.Errorf("P2.2: Put(%08x) is %x, Take(%x) is %08x", c.sum, Put(c.sum), c.b, Take(c.b))
		}
	}
	r := rand.New(rand.NewSource(4))
	for range 2000 {
		sum := r.Uint32()
		if Take(Put(sum)) != sum {
			t.Errorf("P2.2: Take(Put(%08x)) is %08x", sum, Take(Put(sum)))
		}
	}
}

func TestSeal(t *testing.T) {
	table := New()
	if got := table.Seal([]byte("123456789")); string(got) != "123456789\x26\x39\xf4\xcb" {
		t.Errorf("P2.2: Seal(123456789) is %x", got)
	}
	if got := table.Seal(nil); !bytes.Equal(got, make([]byte, 4)) {
		t.Errorf("P2.2: Seal of no bytes is %x", got)
	}
	for n := range 300 {
		b := someBytes(int64(n), n)
		sealed, sum := table.Seal(b), Put(wantSum(b))
		if !bytes.Equal(sealed, slices.Concat(b, sum[:])) {
			t.Errorf("P2.2: Seal(%x) is %x", b, sealed)
		}
		if got, ok := table.Open(sealed); !bytes.Equal(got, b) || !ok {
			t.Errorf("P2.2: Open(%x) is %x, %v", sealed, got, ok)
		}
		if got, ok := New().Open(sealed); !bytes.Equal(got, b) || !ok {
			t.Errorf("P2.2: another table's Open(%x) is %x, %v", sealed, got, ok)
		}
	}
}

func TestOpen(t *testing.T) {
	table := New()
	for _, c := range []struct {
		about, text, want string
		ok                bool
	}{
		{"what Seal made", "123456789\x26\x39\xf4\xcb", "123456789", true},
		{"the sum of no bytes", "\x00\x00\x00\x00", "", true},
		{"another sum of no bytes", "\x01\x00\x00\x00", "", false},
		{"four set bytes", "\xff\xff\xff\xff", "", false},
		{"eight set bytes, four of them the others' sum", "\xff\xff\xff\xff\xff\xff\xff\xff", "\xff\xff\xff\xff", true},
		{"nothing", "", "", false},
		{"one byte", "\x00", "", false},
		{"three bytes", "\x00\x00\x00", "", false},
		{"five bytes that are 0", "\x00\x00\x00\x00\x00", "", false},
		{"the highest byte first", "123456789\xcb\xf4\x39\x26", "", false},
		{"a sum that isn't inverted", "123456789\xd9\xc6\x0b\x34", "", false},
		{"the sum ahead", "\x26\x39\xf4\xcb123456789", "", false},
		{"no sum", "123456789", "", false},
		{"a byte short", "123456789\x26\x39\xf4", "", false},
		{"a byte more", "123456789\x26\x39\xf4\xcb\x00", "", false},
		{"four zero bytes behind", "123456789\x00\x00\x00\x00", "", false},
	} {
		got, ok := table.Open([]byte(c.text))
		if string(got) != c.want || ok != c.ok {
			t.Errorf("P2.2: Open of %s: %q, %v", c.about, got, ok)
		}
	}
}

// TestOpenDamaged: no damage by one bit, nor by one byte, goes unnoticed, nor one that tears the end off.
func TestOpenDamaged(t *testing.T) {
	table, sealed := New(), New().Seal(someBytes(5, 40))
	refuse := func(about string, b []byte) {
		if got, ok := table.Open(b); len(got) != 0 || ok {
			t.Errorf("P2.2: %s goes unnoticed: %x", about, b)
		}
	}
	for i := range sealed {
		for d := 1; d < 256; d++ {
			b := slices.Clone(sealed)
			b[i] ^= byte(d)
			refuse("a changed byte", b)
		}
		refuse("a torn end", sealed[:i])
		refuse("a lost byte", slices.Delete(slices.Clone(sealed), i, i+1))
	}
}
