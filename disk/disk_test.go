package disk

import (
	"bytes"
	"slices"
	"strings"
	"testing"

	"watchfire/api"
)

// seen is what a disk tells of a file.
type seen struct {
	name, bytes string
	loose       int
}

// look returns what a disk tells of all its files.
func look(t *testing.T, d *Disk) []seen {
	t.Helper()
	var all []seen
	for _, name := range d.Names() {
		b, e := d.Read(name)
		if e != api.OK {
			t.Fatalf("P6.1: Read of %s, which Names tells: %d", name, e)
		}
		all = append(all, seen{name, string(b), d.Loose(name)})
	}
	return all
}

// want holds all files of a disk against those that there should be.
func want(t *testing.T, about string, d *Disk, files ...seen) {
	t.Helper()
	if got := look(t, d); !slices.Equal(got, files) {
		t.Errorf("%s: %+v, want %+v", about, got, files)
	}
}

func wantError(t *testing.T, about string, got, want api.Errno) {
	t.Helper()
	if got != want {
		t.Errorf("%s: %d, want %d", about, got, want)
	}
}

func wantCounts(t *testing.T, about string, d *Disk, writes, syncs int64) {
	t.Helper()
	if w, s := d.Counts(); w != writes || s != syncs {
		t.Errorf("P6.1: counts %s: %d and %d, want %d and %d", about, w, s, writes, syncs)
	}
}

// put makes a file of bytes that stay and of loose ones.
func put(t *testing.T, d *Disk, name, stays, loose string) {
	t.Helper()
	wantError(t, "P6.1: Append to "+name, d.Append(name, []byte(stays)), api.OK)
	wantError(t, "P6.1: Sync of "+name, d.Sync(name), api.OK)
	if loose != "" {
		wantError(t, "P6.1: Append to "+name, d.Append(name, []byte(loose)), api.OK)
	}
}

// number returns the names of many files: file-00, file-01 and so on.
func number(i int) string {
	return "file-" + string('0'+rune(i/10)) + string('0'+rune(i%10))
}

// crowd returns a disk of as many files as there may be, each of one byte.
func crowd(t *testing.T) *Disk {
	t.Helper()
	d := New()
	for i := range api.MaxFiles {
		wantError(t, "P6.1: Append to "+number(i), d.Append(number(i), []byte{byte(i)}), api.OK)
	}
	return d
}

// badNames are texts that are no values.
func badNames() []string {
	return []string{"", "A", "aB", "a/b", "a b", "a\n", "é", "a\x00", "a,b", "a=b", "\xff", "/", strings.Repeat("a", 17), strings.Repeat("a", 100)}
}

func TestExample(t *testing.T) {
	d := New()
	wantError(t, "P6.1: Append", d.Append("a", []byte("xy")), api.OK)
	wantError(t, "P6.1: Sync", d.Sync("a"), api.OK)
	wantError(t, "P6.1: Append", d.Append("a", []byte("z")), api.OK)
	d.Crash()
	want(t, "P6.2: the example", d, seen{"a", "xy", 0})
}

func TestNew(t *testing.T) {
	for _, d := range []*Disk{New(), {}} {
		want(t, "P6.1: a new disk", d)
		wantCounts(t, "of a new disk", d, 0, 0)
		wantError(t, "P6.1: Append to a new disk", d.Append("a", []byte("x")), api.OK)
		want(t, "P6.1: a new disk behind an Append", d, seen{"a", "x", 1})
	}
}

// TestAppend looks at what is there, and what is loose, behind each call.
func TestAppend(t *testing.T) {
	d := New()
	d.Append("b", []byte("x"))
	want(t, "P6.1: a file is created", d, seen{"b", "x", 1})
	d.Append("b", []byte("yz"))
	want(t, "P6.1: bytes are appended", d, seen{"b", "xyz", 3})
	d.Append("a", nil)
	want(t, "P6.1: a file without bytes is created", d, seen{"a", "", 0}, seen{"b", "xyz", 3})
	d.Append("a", []byte{})
	want(t, "P6.1: no bytes are appended", d, seen{"a", "", 0}, seen{"b", "xyz", 3})
	d.Sync("b")
	d.Append("b", []byte("!"))
	want(t, "P6.1: a byte behind what stays", d, seen{"a", "", 0}, seen{"b", "xyz!", 1})
	d.Append("a", []byte("\x00\xff"))
	want(t, "P6.1: bytes to another file", d, seen{"a", "\x00\xff", 2}, seen{"b", "xyz!", 1})
	d.Append("b", nil)
	want(t, "P6.1: no bytes behind loose ones", d, seen{"a", "\x00\xff", 2}, seen{"b", "xyz!", 1})
}

func TestAppendNames(t *testing.T) {
	for _, name := range []string{"a", "z", "0", "9", ".", "_", "-", "..", "a.b_c-d", "0123456789abcdef", strings.Repeat("-", 16)} {
		d := New()
		wantError(t, "P6.1: Append to "+name, d.Append(name, []byte("x")), api.OK)
		want(t, "P6.1: a file "+name, d, seen{name, "x", 1})
	}
	for _, name := range badNames() {
		d := New()
		put(t, d, "a", "x", "y")
		wantError(t, "P6.1: Append to "+name, d.Append(name, []byte("x")), api.ErrName)
		want(t, "R4: Append to "+name, d, seen{"a", "xy", 1})
	}
}

// TestAppendMany: there are 64 files, and not 65; a file that went makes room.
func TestAppendMany(t *testing.T) {
	d := crowd(t)
	was := look(t, d)
	wantError(t, "P6.1: the 65th file", d.Append("a", []byte("x")), api.ErrMany)
	wantError(t, "P6.1: the 65th file, of no bytes", d.Append("a", nil), api.ErrMany)
	want(t, "R4: the 65th file", d, was...)
	wantCounts(t, "of 64 files", d, 64, 0)
	wantError(t, "P6.1: Append to one of 64 files", d.Append(number(63), []byte("x")), api.OK)
	wantError(t, "P6.1: Rename of one of 64 files", d.Rename(number(63), "z"), api.OK)
	wantError(t, "P6.1: the 65th file behind a Rename", d.Append(number(63), nil), api.ErrMany)

	wantError(t, "P6.1: Remove", d.Remove(number(5)), api.OK)
	wantError(t, "P6.1: the 64th file behind a Remove", d.Append("a", nil), api.OK)
	wantError(t, "P6.1: the 65th file behind a Remove", d.Append(number(5), nil), api.ErrMany)
	wantError(t, "P6.1: Rename over another file", d.Rename("a", number(6)), api.OK)
	wantError(t, "P6.1: the 64th file behind a Rename", d.Append("a", nil), api.OK)
	wantError(t, "P6.1: the 65th file behind a Rename", d.Append(number(5), nil), api.ErrMany)
	d.Crash()
	wantError(t, "P6.1: the 65th file behind a crash", d.Append(number(5), nil), api.ErrMany)
	wantError(t, "P6.1: the 65th file of a copy", d.Copy().Append(number(5), nil), api.ErrMany)
}

// TestAppendFull: a file has 1048576 bytes, and not one more, in however many calls.
func TestAppendFull(t *testing.T) {
	full := bytes.Repeat([]byte("x"), api.MaxFile+1)
	for _, first := range []int{0, 1, api.MaxFile / 2, api.MaxFile - 1, api.MaxFile} {
		d := New()
		wantError(t, "P6.1: the first bytes", d.Append("a", full[:first]), api.OK)
		wantError(t, "P6.1: a byte too many", d.Append("a", full[first:]), api.ErrFull)
		if d.Loose("a") != first {
			t.Errorf("R4: %d loose bytes behind ErrFull, want %d", d.Loose("a"), first)
		}
		wantError(t, "P6.1: byte 1048576", d.Append("a", full[first:api.MaxFile]), api.OK)
		wantError(t, "P6.1: byte 1048577", d.Append("a", []byte("x")), api.ErrFull)
		wantError(t, "P6.1: no byte to a full file", d.Append("a", nil), api.OK)
		wantError(t, "P6.1: another file", d.Append("b", full[:api.MaxFile]), api.OK)
		want(t, "P6.1: full files", d, seen{"a", string(full[:api.MaxFile]), api.MaxFile}, seen{"b", string(full[:api.MaxFile]), api.MaxFile})
		wantCounts(t, "of full files", d, 4, 0)
		wantError(t, "P6.1: Cut of a full file", d.Cut("a", api.MaxFile-1), api.OK)
		wantError(t, "P6.1: two bytes to a file with room for one", d.Append("a", []byte("xy")), api.ErrFull)
		wantError(t, "P6.1: a byte to a file with room for one", d.Append("a", []byte("y")), api.OK)
	}
	d := New()
	wantError(t, "P6.1: a file of 1048577 bytes", d.Append("a", full), api.ErrFull)
	want(t, "R4: a file that could not be created", d)
	wantCounts(t, "behind ErrFull", d, 0, 0)
}

func TestSync(t *testing.T) {
	d := New()
	wantError(t, "P6.1: Sync of no file", d.Sync("a"), api.ErrNone)
	d.Append("a", []byte("xy"))
	d.Append("b", []byte("z"))
	for _, name := range append(badNames(), "c", "aa") {
		wantError(t, "P6.1: Sync of "+name, d.Sync(name), api.ErrNone)
	}
	want(t, "R4: Sync of no file", d, seen{"a", "xy", 2}, seen{"b", "z", 1})
	wantCounts(t, "behind ErrNone", d, 2, 0)
	wantError(t, "P6.1: Sync", d.Sync("a"), api.OK)
	want(t, "P6.1: Sync of one of two", d, seen{"a", "xy", 0}, seen{"b", "z", 1})
	wantError(t, "P6.1: Sync of what stays", d.Sync("a"), api.OK)
	want(t, "P6.1: Sync of what stays", d, seen{"a", "xy", 0}, seen{"b", "z", 1})
	d.Append("a", []byte("!"))
	wantError(t, "P6.1: Sync of a byte more", d.Sync("a"), api.OK)
	want(t, "P6.1: Sync of a byte more", d, seen{"a", "xy!", 0}, seen{"b", "z", 1})
	d.Append("e", nil)
	wantError(t, "P6.1: Sync of an empty file", d.Sync("e"), api.OK)
	want(t, "P6.1: Sync of an empty file", d, seen{"a", "xy!", 0}, seen{"b", "z", 1}, seen{"e", "", 0})
	wantCounts(t, "of syncs", d, 4, 4)
}

// TestCut cuts a file of four bytes that stay and two loose ones at each place, and appends to what is left.
func TestCut(t *testing.T) {
	for _, c := range []struct {
		n          int
		e          api.Errno
		bytes      string
		loose      int
		behindTear string
	}{
		{-1 << 63, api.ErrRange, "stayLO", 2, "stay"},
		{-1, api.ErrRange, "stayLO", 2, "stay"},
		{0, api.OK, "", 0, ""},
		{1, api.OK, "s", 0, "s"},
		{3, api.OK, "sta", 0, "sta"},
		{4, api.OK, "stay", 0, "stay"},
		{5, api.OK, "stayL", 1, "stay"},
		{6, api.OK, "stayLO", 2, "stay"},
		{7, api.ErrRange, "stayLO", 2, "stay"},
		{1<<63 - 1, api.ErrRange, "stayLO", 2, "stay"},
	} {
		d := New()
		put(t, d, "a", "stay", "LO")
		put(t, d, "b", "be", "side")
		wantError(t, "P6.1: Cut", d.Cut("a", c.n), c.e)
		want(t, "P6.1: Cut", d, seen{"a", c.bytes, c.loose}, seen{"b", "beside", 4})
		more := d.Copy()
		more.Append("a", []byte("end"))
		want(t, "P6.1: Append behind a Cut", more, seen{"a", c.bytes + "end", c.loose + 3}, seen{"b", "beside", 4})
		d.Crash()
		want(t, "P6.2: a crash behind a Cut", d, seen{"a", c.behindTear, 0}, seen{"b", "be", 0})
	}
	d := New()
	for _, n := range []int{-1, 0, 1} {
		wantError(t, "P6.1: Cut of no file", d.Cut("a", n), api.ErrNone)
	}
	d.Append("e", nil)
	wantError(t, "P6.1: Cut of an empty file", d.Cut("e", 0), api.OK)
	wantError(t, "P6.1: Cut of an empty file behind its end", d.Cut("e", 1), api.ErrRange)
	want(t, "P6.1: Cut of an empty file", d, seen{"e", "", 0})
}

func TestRename(t *testing.T) {
	for _, c := range []struct {
		about, old, name string
		e                api.Errno
		files            []seen
	}{
		{"to a new name", "b", "x", api.OK, []seen{{"a", "one", 2}, {"c", "threee", 1}, {"x", "two", 0}}},
		{"to a name of 16 bytes", "c", "0123456789abcdef", api.OK, []seen{{"0123456789abcdef", "threee", 1}, {"a", "one", 2}, {"b", "two", 0}}},
		{"over another file", "a", "c", api.OK, []seen{{"b", "two", 0}, {"c", "one", 2}}},
		{"over another file, that is longer", "c", "a", api.OK, []seen{{"a", "threee", 1}, {"b", "two", 0}}},
		{"to its own name", "a", "a", api.OK, []seen{{"a", "one", 2}, {"b", "two", 0}, {"c", "threee", 1}}},
		{"of a synced file to its own name", "b", "b", api.OK, []seen{{"a", "one", 2}, {"b", "two", 0}, {"c", "threee", 1}}},
		{"of no file", "d", "e", api.ErrNone, nil},
		{"of no file over one", "d", "a", api.ErrNone, nil},
		{"of no file to its own name", "d", "d", api.ErrNone, nil},
		{"of no file to no value", "d", "", api.ErrNone, nil},
		{"of no value to no value", "D", "D", api.ErrNone, nil},
		{"of no value", "", "a", api.ErrNone, nil},
	} {
		d := New()
		put(t, d, "a", "o", "ne")
		put(t, d, "b", "two", "")
		put(t, d, "c", "three", "e")
		if c.e != api.OK {
			c.files = look(t, d)
		}
		wantError(t, "P6.1: Rename "+c.about, d.Rename(c.old, c.name), c.e)
		want(t, "P6.1: Rename "+c.about, d, c.files...)
	}
	for _, name := range badNames() {
		d := New()
		put(t, d, "a", "o", "ne")
		wantError(t, "P6.1: Rename to "+name, d.Rename("a", name), api.ErrName)
		want(t, "R4: Rename to "+name, d, seen{"a", "one", 2})
	}
}

// TestRenameFull: a Rename needs no room, neither for a file nor for its bytes.
func TestRenameFull(t *testing.T) {
	d := crowd(t)
	wantError(t, "P6.1: Append", d.Append(number(7), make([]byte, api.MaxFile-1)), api.OK)
	wantError(t, "P6.1: Rename of a full file", d.Rename(number(7), "a"), api.OK)
	wantError(t, "P6.1: Rename over a full file", d.Rename(number(8), "a"), api.OK)
	if b, e := d.Read("a"); e != api.OK || string(b) != "\x08" || len(d.Names()) != 63 {
		t.Errorf("P6.1: Rename over a full file: %d bytes, %d, of %d files", len(b), e, len(d.Names()))
	}
}

// TestRenameApart: the file that is renamed and one that is created under its old name are two.
func TestRenameApart(t *testing.T) {
	d := New()
	put(t, d, "a", "o", "ne")
	d.Rename("a", "b")
	wantError(t, "P6.1: Sync of the old name", d.Sync("a"), api.ErrNone)
	d.Append("a", []byte("new"))
	d.Append("b", []byte("!"))
	d.Sync("a")
	want(t, "P6.1: the old name anew", d, seen{"a", "new", 0}, seen{"b", "one!", 3})
	d.Crash(Tear{}, Tear{Keep: 1, Bit: 8})
	want(t, "P6.2: a crash behind a Rename", d, seen{"a", "new", 0}, seen{"b", "on", 0})
}

func TestRemove(t *testing.T) {
	d := New()
	wantError(t, "P6.1: Remove of no file", d.Remove("a"), api.ErrNone)
	put(t, d, "a", "o", "ne")
	put(t, d, "b", "two", "")
	for _, name := range append(badNames(), "c") {
		wantError(t, "P6.1: Remove of "+name, d.Remove(name), api.ErrNone)
	}
	want(t, "R4: Remove of no file", d, seen{"a", "one", 2}, seen{"b", "two", 0})
	wantError(t, "P6.1: Remove", d.Remove("a"), api.OK)
	want(t, "P6.1: Remove", d, seen{"b", "two", 0})
	wantError(t, "P6.1: Remove once more", d.Remove("a"), api.ErrNone)
	wantError(t, "P6.1: Sync of what is removed", d.Sync("a"), api.ErrNone)
	wantError(t, "P6.1: Cut of what is removed", d.Cut("a", 0), api.ErrNone)
	wantError(t, "P6.1: Rename of what is removed", d.Rename("a", "c"), api.ErrNone)
	d.Crash(Tear{Keep: 9, Bit: 8})
	want(t, "P6.2: a crash behind a Remove", d, seen{"b", "two", 0})
	d.Append("a", []byte("new"))
	want(t, "P6.1: Append to what is removed", d, seen{"a", "new", 3}, seen{"b", "two", 0})
	d.Remove("b")
	d.Remove("a")
	want(t, "P6.1: all is removed", d)
}

func TestRead(t *testing.T) {
	d := New()
	put(t, d, "a", "o", "ne")
	d.Append("e", nil)
	for _, c := range []struct {
		name, bytes string
		e           api.Errno
	}{
		{"a", "one", api.OK},
		{"e", "", api.OK},
		{"b", "", api.ErrNone},
		{"", "", api.ErrNone},
		{"A", "", api.ErrNone},
		{"aa", "", api.ErrNone},
	} {
		if b, e := d.Read(c.name); string(b) != c.bytes || e != c.e {
			t.Errorf("P6.1: Read(%q): %q, %d, want %q, %d", c.name, b, e, c.bytes, c.e)
		}
	}
	for _, name := range badNames() {
		if b, e := d.Read(name); b != nil || e != api.ErrNone {
			t.Errorf("P6.1: Read(%q): %q, %d", name, b, e)
		}
	}
}

// TestNames: names rise byte by byte, in whatever order the files were created.
func TestNames(t *testing.T) {
	rising := []string{"-", "-a", ".", "0", "00", "1", "10", "9", "_", "a", "a-", "a.", "aa", "ab", "b", "z"}
	for range 20 {
		d := New()
		for i := range rising {
			d.Append(rising[i*7%len(rising)], nil)
		}
		if got := d.Names(); !slices.Equal(got, rising) {
			t.Fatalf("P6.1: names %q, want %q", got, rising)
		}
	}
	names := crowd(t).Names()
	if !slices.IsSorted(names) || len(slices.Compact(names)) != 64 {
		t.Errorf("P6.1: names of 64 files: %q", names)
	}
}

func TestLoose(t *testing.T) {
	d := New()
	put(t, d, "a", "o", "ne")
	for _, name := range append(badNames(), "b", "aa") {
		if n := d.Loose(name); n != 0 {
			t.Errorf("P6.1: Loose(%q), which is no file: %d", name, n)
		}
	}
	if n := d.Loose("a"); n != 2 {
		t.Errorf("P6.1: Loose: %d, want 2", n)
	}
}

// TestCounts: the counts are of calls that succeeded, of Append and of Sync alone.
func TestCounts(t *testing.T) {
	d := New()
	full := make([]byte, api.MaxFile+1)
	for _, c := range []struct {
		about         string
		call          func()
		writes, syncs int64
	}{
		{"of Append", func() { d.Append("a", []byte("xyz")) }, 1, 0},
		{"of Append of no bytes", func() { d.Append("a", nil) }, 2, 0},
		{"of a new file without bytes", func() { d.Append("b", nil) }, 3, 0},
		{"of ErrName", func() { d.Append("A", nil) }, 3, 0},
		{"of ErrFull", func() { d.Append("a", full) }, 3, 0},
		{"of Sync", func() { d.Sync("a") }, 3, 1},
		{"of Sync of what stays", func() { d.Sync("a") }, 3, 2},
		{"of ErrNone", func() { d.Sync("c") }, 3, 2},
		{"of Cut", func() { d.Cut("a", 1) }, 3, 2},
		{"of Rename", func() { d.Rename("a", "c") }, 3, 2},
		{"of Rename over another file", func() { d.Rename("c", "b") }, 3, 2},
		{"of Read and the like", func() { d.Read("b"); d.Names(); d.Loose("b"); d.Counts() }, 3, 2},
		{"of a crash", func() { d.Append("b", []byte("x")); d.Crash(Tear{Keep: 1}) }, 4, 2},
		{"of Copy", func() { d.Copy().Append("a", nil) }, 4, 2},
		{"of Remove", func() { d.Remove("b") }, 4, 2},
		{"of a file that was removed", func() { d.Append("b", nil); d.Sync("b") }, 5, 3},
	} {
		c.call()
		wantCounts(t, c.about, d, c.writes, c.syncs)
	}
	many := crowd(t)
	many.Append("a", nil)
	wantCounts(t, "of ErrMany", many, 64, 0)
}
