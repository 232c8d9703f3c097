package journal

import (
	"bytes"
	"hash/crc32"
	"math/rand"
	"slices"
	"testing"

	"watchfire/api"
	"watchfire/crc"
)

// great is how many bytes a record may have.
const great = 524288

// little returns four bytes of a number, the lowest first.
func little(n uint32) []byte {
	return []byte{byte(n), byte(n >> 8), byte(n >> 16), byte(n >> 24)}
}

// told returns a record that tells a length, which need not be that of its content. The library makes its sum.
func told(length uint32, content []byte) []byte {
	sum := crc32.ChecksumIEEE(slices.Concat(little(length), content))
	return slices.Concat(little(length), little(sum), content)
}

// laid returns a record, of any length.
func laid(content []byte) []byte {
	return told(uint32(len(content)), content)
}

// someBytes returns n bytes that are the same for the same n.
func someBytes(n int) []byte {
	b := make([]byte, n)
	rand.New(rand.NewSource(int64(n))).Read(b)
	return b
}

// lists returns records of many kinds: of no bytes, of one, of bytes that look like records, and longer ones.
func lists() [][][]byte {
	return [][][]byte{
		nil,
		{nil},
		{[]byte("a")},
		{nil, nil, nil},
		{[]byte("one"), nil, []byte("three"), []byte("\x00")},
		{laid([]byte("in")), laid(nil), slices.Concat(laid(nil), laid([]byte("side")))},
		{make([]byte, 9), []byte("\xff\xff\xff\xff\xff\xff\xff\xff"), {8, 0, 0, 0}},
		{someBytes(300), nil, someBytes(7), someBytes(255)},
	}
}

// joined returns records one behind the other.
func joined(contents [][]byte) []byte {
	var all []byte
	for _, c := range contents {
		all = append(all, laid(c)...)
	}
	return all
}

// wholeAt returns how many of the records lie wholly in the first n bytes of all, and how many bytes these take.
func wholeAt(contents [][]byte, n int) (records, end int) {
	for _, c := range contents {
		if end+8+len(c) > n {
			break
		}
		records++
		end += 8 + len(c)
	}
	return records, end
}

// same holds lists of contents against each other: no bytes are no bytes.
func same(a, b [][]byte) bool {
	return slices.EqualFunc(a, b, bytes.Equal)
}

// wantTaken asks Take, which must find that content.
func wantTaken(t *testing.T, about string, b, content []byte) {
	t.Helper()
	got, n, ok := Take(crc.New(), b)
	if !ok || n != 8+len(content) || !bytes.Equal(got, content) {
		t.Errorf("P7.1: Take of %s: %.40x, %d, %v", about, got, n, ok)
	}
}

// wantNone asks Take and Scan, which must find no record.
func wantNone(t *testing.T, about string, table *crc.Table, b []byte) {
	t.Helper()
	if got, n, ok := Take(table, b); got != nil || n != 0 || ok {
		t.Errorf("P7.1: Take of %s: %.40x, %d, %v", about, got, n, ok)
	}
	if got, n := Scan(table, b); len(got) != 0 || n != 0 {
		t.Errorf("P7.1: Scan of %s: %d records in %d bytes", about, len(got), n)
	}
}

// wantScanned asks Scan, which must find these contents, in so many bytes as their records take.
func wantScanned(t *testing.T, about string, b []byte, contents [][]byte) {
	t.Helper()
	got, n := Scan(crc.New(), b)
	if !same(got, contents) || n != len(joined(contents)) {
		t.Errorf("P7.1: Scan of %s: %.40x in %d bytes, want %.40x", about, got, n, contents)
	}
}

// TestLayBytes holds records against bytes that are written out.
func TestLayBytes(t *testing.T) {
	for _, c := range []struct{ content, record string }{
		{"", "\x00\x00\x00\x00\x1c\xdf\x44\x21"},
		{"a", "\x01\x00\x00\x00\x63\x8f\xf7\xc1" + "a"},
	} {
		got, e := Lay(crc.New(), []byte(c.content))
		if e != api.OK || string(got) != c.record {
			t.Errorf("P7.1: Lay(%q): %x, %d, want %x", c.content, got, e, c.record)
		}
		wantTaken(t, "a record that is written out", []byte(c.record), []byte(c.content))
	}
}

func TestLay(t *testing.T) {
	for _, n := range []int{0, 1, 2, 7, 8, 9, 255, 256, 257, 65535, 65536, 65537, great - 1, great} {
		content := someBytes(n)
		got, e := Lay(crc.New(), content)
		if e != api.OK || !bytes.Equal(got, laid(content)) {
			t.Errorf("P7.1: Lay of %d bytes: %.40x, %d", n, got, e)
		}
		wantTaken(t, "a record", got, content)
		wantScanned(t, "a record", got, [][]byte{content})
	}
	if got, _ := Lay(crc.New(), []byte{7}); len(got) != 9 {
		t.Errorf("P7.1: the example: %d bytes", len(got))
	}
}

func TestLayLong(t *testing.T) {
	for _, n := range []int{great + 1, great + 2, 1 << 20, 1 << 24} {
		if got, e := Lay(crc.New(), make([]byte, n)); got != nil || e != api.ErrLong {
			t.Errorf("P7.1: Lay of %d bytes: %d bytes, %d", n, len(got), e)
		}
	}
}

func TestNoTable(t *testing.T) {
	for _, b := range [][]byte{nil, {}, []byte("a"), make([]byte, 8), make([]byte, 99), laid(nil), laid([]byte("a")), make([]byte, great)} {
		if got, e := Lay(nil, b); got != nil || e != api.ErrNil {
			t.Errorf("P7.1: Lay without a table: %.40x, %d", got, e)
		}
		wantNone(t, "bytes without a table", nil, b)
	}
}

// TestTakeShort: bytes of which any number is missing begin with no record.
func TestTakeShort(t *testing.T) {
	for _, content := range [][]byte{nil, []byte("a"), []byte("abc"), someBytes(300)} {
		record := laid(content)
		for i := range record {
			wantNone(t, "a record that is cut", crc.New(), record[:i])
			wantNone(t, "a record that is cut, with more in its spare capacity", crc.New(), slices.Clone(record)[:i])
		}
	}
	record := laid(someBytes(great))
	for _, n := range []int{1, 2, 100, great - 1, great, great + 1, great + 4, great + 7} {
		wantNone(t, "a great record that is cut", crc.New(), record[:len(record)-n])
	}
}

// TestTakeLength: lengths that are wrong, with sums that are right for them.
func TestTakeLength(t *testing.T) {
	content := []byte("content")
	for _, length := range []uint32{8, 9, 255, 256, great - 1, great, great + 1, 1 << 24, 1<<31 - 1, 1 << 31, 1<<32 - 8, 1<<32 - 1} {
		wantNone(t, "a length above what there is", crc.New(), told(length, content))
	}
	for length := range uint32(7) {
		wantNone(t, "a length below what its sum is of", crc.New(), told(length, content))
		wantTaken(t, "a short record with bytes behind it", slices.Concat(laid(content[:length]), content[length:]), content[:length])
	}
	wantTaken(t, "the greatest record", laid(someBytes(great)), someBytes(great))
	for _, n := range []int{great + 1, great + 2, 1 << 20} {
		wantNone(t, "a record that is too great", crc.New(), laid(make([]byte, n)))
		wantNone(t, "a record that is too great, with bytes behind it", crc.New(), slices.Concat(laid(make([]byte, n)), laid(nil)))
	}
}

// TestTakeBits turns each bit of a record, with and without so many bytes behind it that a greater length finds enough.
func TestTakeBits(t *testing.T) {
	for _, content := range [][]byte{nil, []byte("a"), []byte("some more bytes"), make([]byte, 70)} {
		for _, behind := range [][]byte{nil, laid([]byte("behind")), make([]byte, 1<<17)} {
			b := slices.Concat(laid(content), behind)
			for i := range 8 * len(laid(content)) {
				b[i/8] ^= 1 << (i % 8)
				wantNone(t, "a record with a turned bit", crc.New(), b)
				b[i/8] ^= 1 << (i % 8)
			}
			wantTaken(t, "a record whose bits are turned back", b, content)
		}
	}
	b := laid(someBytes(great))
	for _, i := range []int{0, 19, 31, 32, 63, 64, 65, 8 * 1000, 8 * great, 8*len(b) - 1} {
		b[i/8] ^= 1 << (i % 8)
		wantNone(t, "a great record with a turned bit", crc.New(), b)
		b[i/8] ^= 1 << (i % 8)
	}
}

// TestTakeSum: sums that are made otherwise.
func TestTakeSum(t *testing.T) {
	content := []byte("abc")
	length := little(3)
	high := laid(content)
	slices.Reverse(high[4:8])
	for about, b := range map[string][]byte{
		"a sum of the content alone":            slices.Concat(length, little(crc32.ChecksumIEEE(content)), content),
		"a sum of the content and the length":   slices.Concat(length, little(crc32.ChecksumIEEE(slices.Concat(content, length))), content),
		"a sum with its highest byte first":     high,
		"a length with its highest byte first":  told(3<<24, content),
		"no sum":                                slices.Concat(length, make([]byte, 4), content),
		"a sum that isn't inverted":             slices.Concat(length, little(^crc32.ChecksumIEEE(slices.Concat(length, content))), content),
		"a sum ahead of the length":             slices.Concat(laid(content)[4:8], length, content),
		"bytes that are 0":                      make([]byte, 99),
		"bytes that are 255":                    bytes.Repeat([]byte{255}, 99),
		"a byte ahead of a record":              slices.Concat([]byte{0}, laid(content)),
		"no bytes":                              nil,
		"a length alone":                        length,
		"a length and a sum without content":    laid(content)[:8],
		"a length of no bytes with another sum": slices.Concat(little(0), little(1)),
	} {
		wantNone(t, about, crc.New(), b)
	}
}

// TestTakeBehind: what lies behind a record doesn't matter.
func TestTakeBehind(t *testing.T) {
	for _, content := range [][]byte{nil, []byte("a"), someBytes(100), someBytes(great)} {
		for _, behind := range [][]byte{nil, {0}, []byte("behind"), laid([]byte("behind")), make([]byte, 99), someBytes(2000)} {
			wantTaken(t, "a record with bytes behind it", slices.Concat(laid(content), behind), content)
		}
	}
}

func TestScan(t *testing.T) {
	for _, contents := range lists() {
		wantScanned(t, "records", joined(contents), contents)
		for _, behind := range [][]byte{{0}, []byte("behind"), make([]byte, 99), laid([]byte("cut"))[:10], told(1, nil), laid(make([]byte, great+1))} {
			wantScanned(t, "records with bytes behind them", slices.Concat(joined(contents), behind), contents)
			wantScanned(t, "records with bytes and records behind them", slices.Concat(joined(contents), behind, laid(nil)), contents)
			wantScanned(t, "bytes ahead of records", slices.Concat(behind, joined(contents)), nil)
		}
	}
	whole := [][]byte{someBytes(great), nil, someBytes(great - 24)}
	wantScanned(t, "great records", joined(whole), whole)
}

// TestScanCut cuts records at each place.
func TestScanCut(t *testing.T) {
	for _, contents := range lists() {
		all := joined(contents)
		for i := range len(all) + 1 {
			records, _ := wholeAt(contents, i)
			wantScanned(t, "records that are cut", all[:i], contents[:records])
		}
	}
}

// TestScanSpoilt turns one bit or all of them at each byte: what lies ahead of that record is found, and nothing behind it.
func TestScanSpoilt(t *testing.T) {
	for _, contents := range lists() {
		all := joined(contents)
		for i := range all {
			records, _ := wholeAt(contents, i)
			for _, turn := range []byte{1, 0x80, 0xff} {
				all[i] ^= turn
				wantScanned(t, "records that are spoilt", all, contents[:records])
				all[i] ^= turn
			}
		}
		wantScanned(t, "records that are as they were", all, contents)
	}
}

// TestScanMany scans as many records as a file may have, and cuts the last one.
func TestScanMany(t *testing.T) {
	contents := make([][]byte, 1<<17)
	all := joined(contents)
	wantScanned(t, "very many records", all, contents)
	wantScanned(t, "very many records, cut", all[:len(all)-1], contents[1:])
}
