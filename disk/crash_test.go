package disk

import (
	"testing"

	"watchfire/api"
)

// none is a bit that is none: it flips nothing.
const none = 8

// TestCrashKeep tears a file of four bytes that stay and three loose ones: L is 4c, and with its lowest bit flipped it is M; O is N then, and S is R.
func TestCrashKeep(t *testing.T) {
	for _, c := range []struct {
		tear Tear
		want string
	}{
		{Tear{0, none}, "stay"},
		{Tear{1, none}, "stayL"},
		{Tear{2, none}, "stayLO"},
		{Tear{3, none}, "stayLOS"},
		{Tear{4, none}, "stayLOS"},
		{Tear{65535, none}, "stayLOS"},
		{Tear{0, 0}, "stay"},
		{Tear{0, 7}, "stay"},
		{Tear{1, 0}, "stayM"},
		{Tear{2, 0}, "stayLN"},
		{Tear{3, 0}, "stayLOR"},
		{Tear{4, 0}, "stayLOR"},
		{Tear{65535, 0}, "stayLOR"},
		{Tear{65535, 65535}, "stayLOS"},
		{Tear{}, "stay"},
	} {
		d := New()
		put(t, d, "a", "stay", "LOS")
		d.Crash(c.tear)
		want(t, "P6.2: a tear", d, seen{"a", c.want, 0})
		d.Crash()
		want(t, "P6.2: what remains is synced", d, seen{"a", c.want, 0})
		d.Append("a", []byte("!"))
		want(t, "P6.2: a byte behind what remains", d, seen{"a", c.want + "!", 1})
	}
}

// TestCrashBit flips each bit of the last loose byte that remains, and none above the seventh.
func TestCrashBit(t *testing.T) {
	for bit := range uint16(300) {
		for _, last := range []byte{0, 0xff, 0x5a} {
			flipped := last
			if bit < 8 {
				flipped = last ^ 1<<bit
			}
			for _, stays := range []string{"", "\xa5", "stay"} {
				d := New()
				put(t, d, "a", stays, "")
				d.Append("a", []byte{last, last, last})
				d.Crash(Tear{Keep: 2, Bit: bit})
				want(t, "P6.2: a flipped bit", d, seen{"a", stays + string([]byte{last, flipped}), 0})
			}
		}
	}
	for _, bit := range []uint16{8, 9, 255, 256, 257, 1 << 8, 1 << 15, 65535} {
		d := New()
		put(t, d, "a", "stay", "L")
		d.Crash(Tear{Keep: 9, Bit: bit})
		want(t, "P6.2: a bit that is none", d, seen{"a", "stayL", 0})
	}
}

// TestCrashNothingLoose: what was synced stays as it is, whatever tears there are, and an empty file stays a file.
func TestCrashNothingLoose(t *testing.T) {
	for _, keep := range []uint16{0, 1, 4, 65535} {
		for bit := range uint16(10) {
			d := New()
			put(t, d, "a", "stay", "")
			d.Append("b", nil)
			d.Append("c", []byte("gone"))
			d.Cut("c", 0)
			d.Crash(Tear{keep, bit}, Tear{keep, bit}, Tear{keep, bit})
			want(t, "P6.2: a crash with nothing loose", d, seen{"a", "stay", 0}, seen{"b", "", 0}, seen{"c", "", 0})
		}
	}
	d := New()
	d.Append("a", []byte("all"))
	d.Crash()
	want(t, "P6.2: a file of which nothing remains", d, seen{"a", "", 0})
}

// TestCrashTears: the tears go to the files in the order of their names, one to each, also to one with nothing loose.
func TestCrashTears(t *testing.T) {
	for _, c := range []struct {
		about string
		tears []Tear
		want  [4]string
	}{
		{"no tears", nil, [4]string{"one", "two", "th", ""}},
		{"an empty list of tears", []Tear{}, [4]string{"one", "two", "th", ""}},
		{"a tear for the first", []Tear{{1, none}}, [4]string{"oneA", "two", "th", ""}},
		{"tears for two", []Tear{{2, none}, {1, none}}, [4]string{"oneAA", "two", "th", ""}},
		{"tears for three", []Tear{{}, {2, none}, {3, none}}, [4]string{"one", "two", "thCCC", ""}},
		{"a tear for each", []Tear{{2, 0}, {2, 1}, {1, 2}, {4, 3}}, [4]string{"oneA@", "two", "thG", "DDDL"}},
		{"more tears than files", []Tear{{}, {9, 1}, {}, {1, none}, {9, 0}, {9, 0}, {9, 0}}, [4]string{"one", "two", "th", "D"}},
	} {
		for _, reverse := range []bool{false, true} {
			d := New()
			made := []func(){
				func() { put(t, d, "a", "one", "AAA") },
				func() { put(t, d, "b", "two", "") },
				func() { put(t, d, "c", "th", "CCC") },
				func() { put(t, d, "d", "", "DDDD") },
			}
			for i := range made {
				if reverse {
					i = len(made) - 1 - i
				}
				made[i]()
			}
			d.Crash(c.tears...)
			want(t, "P6.2: "+c.about, d, seen{"a", c.want[0], 0}, seen{"b", c.want[1], 0}, seen{"c", c.want[2], 0}, seen{"d", c.want[3], 0})
		}
	}
}

// TestCrashMany gives each of 64 files a tear of its own.
func TestCrashMany(t *testing.T) {
	d, tears := New(), make([]Tear, api.MaxFiles)
	var files []seen
	for i := range tears {
		tears[i] = Tear{Keep: uint16(i), Bit: none}
		put(t, d, number(63-i), "x", string(make([]byte, 70)))
		files = append(files, seen{number(i), "x" + string(make([]byte, i)), 0})
	}
	d.Crash(tears...)
	want(t, "P6.2: 64 files with a tear each", d, files...)
}

// TestCrashLong tears a file with more loose bytes than a tear may keep.
func TestCrashLong(t *testing.T) {
	d := New()
	put(t, d, "a", "x", string(make([]byte, 100000)))
	d.Crash(Tear{Keep: 65535, Bit: 6})
	want(t, "P6.2: a long tear", d, seen{"a", "x" + string(make([]byte, 65534)) + "@", 0})
}

// TestCrashOnly: a crash goes to a disk's own files, and an empty disk stays empty.
func TestCrashOnly(t *testing.T) {
	for _, d := range []*Disk{New(), {}} {
		d.Crash()
		d.Crash(Tear{Keep: 1}, Tear{Keep: 2})
		want(t, "P6.2: a crash of an empty disk", d)
		wantError(t, "P6.1: Append behind a crash", d.Append("a", []byte("x")), api.OK)
		want(t, "P6.2: a file behind a crash", d, seen{"a", "x", 1})
	}
}

// TestCopy: a copy has the same files, with what is loose of them, and its counts are 0.
func TestCopy(t *testing.T) {
	d := New()
	put(t, d, "a", "o", "ne")
	put(t, d, "b", "two", "")
	d.Append("e", nil)
	files := look(t, d)
	c := d.Copy()
	want(t, "P6.2: a copy", c, files...)
	want(t, "P6.2: what is copied", d, files...)
	wantCounts(t, "of a copy", c, 0, 0)
	wantCounts(t, "of what is copied", d, 4, 2)
	c.Crash(Tear{Keep: 1, Bit: none})
	want(t, "P6.2: a copy behind a crash", c, seen{"a", "on", 0}, seen{"b", "two", 0}, seen{"e", "", 0})
	want(t, "P6.2: what is copied, behind a crash of the copy", d, files...)
}

// TestCopyEmpty: a copy of no files, and of no disk, is an empty disk that can be used.
func TestCopyEmpty(t *testing.T) {
	for _, d := range []*Disk{New(), {}, nil} {
		c := d.Copy()
		if c == nil || c == d {
			t.Fatalf("P6.2: a copy of an empty disk: %v", c)
		}
		want(t, "P6.2: a copy of an empty disk", c)
		wantCounts(t, "of a copy of an empty disk", c, 0, 0)
		wantError(t, "P6.2: Append to a copy", c.Append("a", []byte("x")), api.OK)
		want(t, "P6.2: a copy of an empty disk", c, seen{"a", "x", 1})
		want(t, "P6.2: the empty disk that is copied", d)
	}
}

// TestCopyApart does something to a copy, and to what was copied: the other one stays as it is.
func TestCopyApart(t *testing.T) {
	for _, c := range []struct {
		about string
		do    func(d *Disk)
	}{
		{"Append", func(d *Disk) { d.Append("a", []byte("!!!!")) }},
		{"Append behind a Cut", func(d *Disk) { d.Cut("a", 1); d.Append("a", []byte("!")) }},
		{"a new file", func(d *Disk) { d.Append("z", []byte("!")) }},
		{"Sync", func(d *Disk) { d.Sync("a") }},
		{"Cut", func(d *Disk) { d.Cut("a", 0) }},
		{"Rename", func(d *Disk) { d.Rename("a", "z") }},
		{"Rename over another file", func(d *Disk) { d.Rename("a", "b") }},
		{"Remove", func(d *Disk) { d.Remove("a") }},
		{"Crash", func(d *Disk) { d.Crash() }},
		{"Crash that flips a bit", func(d *Disk) { d.Crash(Tear{Keep: 1, Bit: 0}, Tear{Keep: 9, Bit: 7}) }},
	} {
		for _, toCopy := range []bool{true, false} {
			d := New()
			put(t, d, "a", "o", "ne")
			put(t, d, "b", "t", "wo")
			files := look(t, d)
			used, other := d, d.Copy()
			if toCopy {
				used, other = other, used
			}
			w, s := other.Counts()
			c.do(used)
			want(t, "P6.2: "+c.about+" of the one, the other", other, files...)
			wantCounts(t, "of the other disk", other, w, s)
		}
	}
}
