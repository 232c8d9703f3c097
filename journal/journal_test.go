package journal

import (
	"bytes"
	"slices"
	"strings"
	"testing"

	"watchfire/api"
	"watchfire/crc"
	"watchfire/disk"
)

// badNames are texts that no file has as its name.
func badNames() []string {
	return []string{"", "A", "a/b", "a b", "é", "a\x00", "\xff", strings.Repeat("a", 17), strings.Repeat("a", 100000)}
}

// open opens a journal that must open, with these contents.
func open(t *testing.T, about string, d *disk.Disk, name string, contents ...[]byte) *Journal {
	t.Helper()
	j, got, e := Open(d, crc.New(), name)
	if e != api.OK || j == nil || !same(got, contents) {
		t.Fatalf("P7.2: Open %s: %.60x, %d, want %.60x", about, got, e, contents)
	}
	if j.Name() != name {
		t.Errorf("P7.2: Open %s: the name %q, want %q", about, j.Name(), name)
	}
	return j
}

// wantFile holds a file's bytes, and how many of them are loose, against what there should be.
func wantFile(t *testing.T, about string, d *disk.Disk, name string, b []byte, loose int) {
	t.Helper()
	got, e := d.Read(name)
	if e != api.OK || !bytes.Equal(got, b) || d.Loose(name) != loose {
		t.Errorf("%s: %d, %d bytes %.60x, %d loose, want %d bytes %.60x, %d loose", about, e, len(got), got, d.Loose(name), len(b), b, loose)
	}
}

func wantError(t *testing.T, about string, got, want api.Errno) {
	t.Helper()
	if got != want {
		t.Errorf("%s: %d, want %d", about, got, want)
	}
}

// wantCounts holds a disk's counts against what there should be.
func wantCounts(t *testing.T, about string, d *disk.Disk, writes, syncs int64) {
	t.Helper()
	if w, s := d.Counts(); w != writes || s != syncs {
		t.Errorf("P7.2: %s: %d writes and %d syncs, want %d and %d", about, w, s, writes, syncs)
	}
}

// onDisk returns a disk with one file, of bytes that stay and of loose ones.
func onDisk(name string, stays, loose []byte) *disk.Disk {
	d := disk.New()
	d.Append(name, stays)
	d.Sync(name)
	d.Append(name, loose)
	return d
}

// crowd returns a disk of so many files.
func crowd(n int) *disk.Disk {
	d := disk.New()
	for i := range n {
		d.Append("file-"+string('0'+rune(i/10))+string('0'+rune(i%10)), []byte{byte(i)})
	}
	return d
}

// TestOpenNone: a file that does not exist has no records, and is created by the first Append alone.
func TestOpenNone(t *testing.T) {
	for _, d := range []*disk.Disk{disk.New(), {}, onDisk("b", laid(nil), []byte("cut"))} {
		was := d.Names()
		writes, syncs := d.Counts()
		j := open(t, "of no file", d, "a")
		wantError(t, "P7.2: Sync of no file", j.Sync(), api.OK)
		if j.Size() != 0 || !slices.Equal(d.Names(), was) {
			t.Errorf("P7.2: a journal of no file: %d bytes, files %q", j.Size(), d.Names())
		}
		wantCounts(t, "a journal of no file", d, writes, syncs)
		wantError(t, "P7.2: the first Append", j.Append([]byte("x")), api.OK)
		wantFile(t, "P7.2: the first Append", d, "a", laid([]byte("x")), 9)
	}
}

// TestOpenAny opens files of records with nothing, and with what is no record, behind them, of which any part is loose.
func TestOpenAny(t *testing.T) {
	for _, contents := range lists() {
		for _, behind := range [][]byte{nil, {0}, make([]byte, 8), make([]byte, 99), laid([]byte("cut"))[:10], slices.Concat(told(1, nil), laid(nil)), laid(make([]byte, great+1))} {
			all, end := slices.Concat(joined(contents), behind), len(joined(contents))
			for _, stays := range []int{0, end / 2, end, (end + len(all)) / 2, len(all)} {
				d := onDisk("a", all[:stays], all[stays:])
				writes, _ := d.Counts()
				j := open(t, "of any file", d, "a", contents...)
				wantFile(t, "P7.2: Open cuts off, and syncs", d, "a", all[:end], 0)
				if now, _ := d.Counts(); now != writes {
					t.Error("P7.2: Open appends to its file")
				}
				if j.Size() != end {
					t.Errorf("P7.2: Size behind Open: %d, want %d", j.Size(), end)
				}
				d.Crash()
				j = open(t, "of a file that was opened", d, "a", contents...)
				wantError(t, "P7.2: Append behind Open", j.Append([]byte("more")), api.OK)
				wantFile(t, "P7.2: Append behind Open", d, "a", append(all[:end:end], laid([]byte("more"))...), 12)
				open(t, "behind an Append", d, "a", append(slices.Clone(contents), []byte("more"))...)
			}
		}
	}
}

// TestOpenCut opens records that are cut, or spoilt, at each place.
func TestOpenCut(t *testing.T) {
	for _, contents := range lists()[:6] {
		all := joined(contents)
		for i := range len(all) + 1 {
			records, end := wholeAt(contents, i)
			d := onDisk("a", all[:i], nil)
			open(t, "of a file that is cut", d, "a", contents[:records]...)
			wantFile(t, "P7.2: Open of a file that is cut", d, "a", all[:end], 0)
			if i == len(all) {
				break
			}
			spoilt := slices.Clone(all)
			spoilt[i] ^= 0x10
			d = onDisk("a", nil, spoilt)
			open(t, "of a file that is spoilt", d, "a", contents[:records]...)
			wantFile(t, "P7.2: Open of a file that is spoilt", d, "a", all[:end], 0)
		}
	}
}

// TestOpenOnly: nothing but its file is cut or synced.
func TestOpenOnly(t *testing.T) {
	d := onDisk("a", []byte("no record"), []byte("at all"))
	d.Append("b", laid([]byte("x")))
	d.Append("b", []byte("no record"))
	d.Append("c", laid([]byte("y")))
	j := open(t, "of one file", d, "b", []byte("x"))
	wantFile(t, "P7.2: Open of another file", d, "a", []byte("no recordat all"), 6)
	wantFile(t, "P7.2: Open of another file", d, "c", laid([]byte("y")), 9)
	j.Append(nil)
	j.Sync()
	wantFile(t, "P7.2: a journal of another file", d, "a", []byte("no recordat all"), 6)
	wantFile(t, "P7.2: a journal of another file", d, "c", laid([]byte("y")), 9)
	if !slices.Equal(d.Names(), []string{"a", "b", "c"}) {
		t.Errorf("P7.2: files %q", d.Names())
	}
}

func TestOpenNil(t *testing.T) {
	d := onDisk("a", laid([]byte("x")), []byte("no record"))
	for about, call := range map[string]func() (*Journal, [][]byte, api.Errno){
		"no disk":                       func() (*Journal, [][]byte, api.Errno) { return Open(nil, crc.New(), "a") },
		"no table":                      func() (*Journal, [][]byte, api.Errno) { return Open(d, nil, "a") },
		"no table, for no file":         func() (*Journal, [][]byte, api.Errno) { return Open(d, nil, "b") },
		"neither disk nor table":        func() (*Journal, [][]byte, api.Errno) { return Open(nil, nil, "a") },
		"no disk, for a name that's no": func() (*Journal, [][]byte, api.Errno) { return Open(nil, crc.New(), "A") },
	} {
		if j, contents, e := call(); j != nil || contents != nil || e != api.ErrNil {
			t.Errorf("P7.2: Open with %s: %v, %x, %d", about, j, contents, e)
		}
	}
	wantFile(t, "R4: Open that is refused", d, "a", slices.Concat(laid([]byte("x")), []byte("no record")), 9)
	wantCounts(t, "Open that is refused", d, 2, 1)
}

// TestAppend looks at the file behind each record.
func TestAppend(t *testing.T) {
	for _, contents := range lists() {
		d := disk.New()
		j := open(t, "of no file", d, "a")
		var all []byte
		for _, c := range contents {
			wantError(t, "P7.2: Append", j.Append(c), api.OK)
			all = append(all, laid(c)...)
			wantFile(t, "P7.2: Append", d, "a", all, len(all))
			if j.Size() != len(all) {
				t.Errorf("P7.2: Size behind Append: %d, want %d", j.Size(), len(all))
			}
		}
		wantCounts(t, "Append", d, int64(len(contents)), 0)
	}
}

func TestAppendLong(t *testing.T) {
	d := disk.New()
	j := open(t, "of no file", d, "a")
	for _, n := range []int{great + 1, 1 << 20, 1 << 24} {
		wantError(t, "P7.2: Append of a record that is too great", j.Append(make([]byte, n)), api.ErrLong)
	}
	if len(d.Names()) != 0 {
		t.Errorf("R4: Append of a record that is too great: files %q", d.Names())
	}
	wantError(t, "P7.2: Append of the greatest record", j.Append(someBytes(great)), api.OK)
	wantError(t, "P7.2: Append of a record that is too great", j.Append(make([]byte, great+1)), api.ErrLong)
	wantFile(t, "P7.2: Append of the greatest record", d, "a", laid(someBytes(great)), great+8)
	open(t, "of the greatest record", d, "a", someBytes(great))
}

// TestAppendName: a name that no file may have opens, as that of a file that does not exist, and nothing is appended to it.
func TestAppendName(t *testing.T) {
	for _, name := range badNames() {
		d := disk.New()
		j := open(t, "of a name that is no value", d, name)
		wantError(t, "P7.2: Append to a name that is no value", j.Append([]byte("x")), api.ErrName)
		wantError(t, "P7.2: Sync of a name that is no value", j.Sync(), api.OK)
		if j.Size() != 0 || len(d.Names()) != 0 {
			t.Errorf("P7.2: a name that is no value: %d bytes, files %q", j.Size(), d.Names())
		}
		wantCounts(t, "a name that is no value", d, 0, 0)
	}
	for _, name := range []string{"a", ".", "s.0", "0123456789abcdef"} {
		d := disk.New()
		wantError(t, "P7.2: Append to "+name, open(t, "of "+name, d, name).Append([]byte("x")), api.OK)
		wantFile(t, "P7.2: Append to "+name, d, name, laid([]byte("x")), 9)
	}
}

// TestAppendMany: the 65th file is refused as long as there are 64 others.
func TestAppendMany(t *testing.T) {
	d := crowd(api.MaxFiles)
	j := open(t, "of a 65th file", d, "a")
	wantError(t, "P7.2: Append to a 65th file", j.Append([]byte("x")), api.ErrMany)
	wantError(t, "P7.2: Sync of a 65th file", j.Sync(), api.OK)
	if j.Size() != 0 || len(d.Names()) != api.MaxFiles {
		t.Errorf("R4: a 65th file: %d bytes, %d files", j.Size(), len(d.Names()))
	}
	d.Remove("file-07")
	wantError(t, "P7.2: Append to the 64th file", j.Append([]byte("x")), api.OK)
	wantFile(t, "P7.2: Append to the 64th file", d, "a", laid([]byte("x")), 9)
	open(t, "of one of 64 files", d, "a", []byte("x"))
}

// TestAppendFull fills a file to its last byte.
func TestAppendFull(t *testing.T) {
	d := disk.New()
	j := open(t, "of no file", d, "a")
	wantError(t, "P7.2: Append of the greatest record", j.Append(someBytes(great)), api.OK)
	wantError(t, "P7.2: Append of another one", j.Append(someBytes(great)), api.ErrFull)
	wantError(t, "P7.2: Append up to byte 1048577", j.Append(make([]byte, great-15)), api.ErrFull)
	wantFile(t, "R4: Append to a full file", d, "a", laid(someBytes(great)), great+8)
	wantError(t, "P7.2: Append up to byte 1048576", j.Append(someBytes(great-16)), api.OK)
	wantError(t, "P7.2: Append of no bytes to a full file", j.Append(nil), api.ErrFull)
	if j.Size() != api.MaxFile {
		t.Errorf("P7.2: Size of a full file: %d", j.Size())
	}
	open(t, "of a full file", d, "a", someBytes(great), someBytes(great-16))
}

// TestSync: the disk is asked if there are loose bytes, and only then.
func TestSync(t *testing.T) {
	d := disk.New()
	j := open(t, "of no file", d, "a")
	d.Append("b", []byte("loose"))
	var all []byte
	syncs := int64(0)
	for i, n := range []int{0, 1, 2, 0, 3} {
		for range n {
			j.Append([]byte("x"))
			all = append(all, laid([]byte("x"))...)
		}
		syncs += int64(min(n, 1))
		for range 2 {
			wantError(t, "P7.2: Sync", j.Sync(), api.OK)
			wantCounts(t, "Sync", d, 1+int64(len(all)/9), syncs)
			if i > 0 {
				wantFile(t, "P7.2: Sync", d, "a", all, 0)
			}
		}
	}
	wantFile(t, "P7.2: Sync of another file", d, "b", []byte("loose"), 5)
}

// TestSize: it is that of the file as it is, whoever has changed it.
func TestSize(t *testing.T) {
	d := disk.New()
	j := open(t, "of no file", d, "a")
	other := open(t, "of no file", d, "a")
	wantSize := func(about string, want int) {
		t.Helper()
		if j.Size() != want || other.Size() != want {
			t.Errorf("P7.2: Size %s: %d and %d, want %d", about, j.Size(), other.Size(), want)
		}
	}
	wantSize("of no file", 0)
	j.Append([]byte("x"))
	wantSize("behind Append", 9)
	j.Sync()
	other.Append([]byte("yz"))
	wantSize("behind another journal's Append", 19)
	d.Crash(disk.Tear{Keep: 3})
	wantSize("behind a crash", 12)
	d.Cut("a", 5)
	wantSize("behind a Cut", 5)
	open(t, "of a file that is cut", d, "a")
	wantSize("behind Open", 0)
	j.Append(nil)
	d.Rename("a", "b")
	wantSize("behind a Rename", 0)
	j.Append([]byte("new"))
	wantSize("of a file that was created again", 11)
	open(t, "of a file that was created again", d, "a", []byte("new"))
	open(t, "of a file that was renamed", d, "b", nil)
}
