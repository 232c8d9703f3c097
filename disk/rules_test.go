package disk

import (
	"bytes"
	"math"
	"math/rand"
	"reflect"
	"slices"
	"sort"
	"strings"
	"testing"

	"watchfire/api"
)

// cell is a byte of a file of the model, with whether it is loose.
type cell struct {
	b     byte
	loose bool
}

// modelFile is a file of the model.
type modelFile struct {
	name  string
	cells []cell
}

// model is a plain list of files, in any order, and the counts.
type model struct {
	files         []modelFile
	writes, syncs int64
}

// at returns the place of a file in the list, or -1.
func (m *model) at(name string) int {
	for i, f := range m.files {
		if f.name == name {
			return i
		}
	}
	return -1
}

// isValue judges a name by the words of chapter 1.
func isValue(s string) bool {
	return len(s) >= 1 && len(s) <= 16 && strings.Trim(s, "abcdefghijklmnopqrstuvwxyz0123456789._-") == ""
}

func (m *model) append(name string, b []byte) api.Errno {
	i := m.at(name)
	switch {
	case !isValue(name):
		return api.ErrName
	case i < 0 && len(m.files) >= 64:
		return api.ErrMany
	case i < 0 && len(b) > 1048576, i >= 0 && len(m.files[i].cells)+len(b) > 1048576:
		return api.ErrFull
	}
	if i < 0 {
		i = len(m.files)
		m.files = append(m.files, modelFile{name: name})
	}
	for _, c := range b {
		m.files[i].cells = append(m.files[i].cells, cell{c, true})
	}
	m.writes++
	return api.OK
}

func (m *model) sync(name string) api.Errno {
	i := m.at(name)
	if i < 0 {
		return api.ErrNone
	}
	m.files[i].settle()
	m.syncs++
	return api.OK
}

// settle makes every byte of a file one that stays.
func (f *modelFile) settle() {
	for i := range f.cells {
		f.cells[i].loose = false
	}
}

func (m *model) cut(name string, n int) api.Errno {
	i := m.at(name)
	if i < 0 {
		return api.ErrNone
	}
	if n < 0 || len(m.files[i].cells) < n {
		return api.ErrRange
	}
	m.files[i].cells = slices.Clone(m.files[i].cells[:n])
	return api.OK
}

func (m *model) rename(old, name string) api.Errno {
	i, replaced := m.at(old), m.at(name)
	if i < 0 {
		return api.ErrNone
	}
	if !isValue(name) {
		return api.ErrName
	}
	m.files[i].name = name
	if replaced >= 0 && replaced != i {
		m.files = slices.Delete(m.files, replaced, replaced+1)
	}
	return api.OK
}

func (m *model) remove(name string) api.Errno {
	i := m.at(name)
	if i < 0 {
		return api.ErrNone
	}
	m.files = slices.Delete(m.files, i, i+1)
	return api.OK
}

func (m *model) crash(tears []Tear) {
	sort.Slice(m.files, func(i, j int) bool { return m.files[i].name < m.files[j].name })
	for i := range m.files {
		f, t := &m.files[i], Tear{}
		if len(tears) > 0 {
			t, tears = tears[0], tears[1:]
		}
		var left []cell
		kept := 0
		for _, c := range f.cells {
			if c.loose && kept == int(t.Keep) {
				break
			}
			if c.loose {
				kept++
			}
			left = append(left, c)
		}
		if kept > 0 && t.Bit < 8 {
			left[len(left)-1].b ^= byte(1) << t.Bit
		}
		f.cells = left
		f.settle()
	}
}

func (m *model) copy() *model {
	made := &model{}
	for _, f := range m.files {
		made.files = append(made.files, modelFile{f.name, slices.Clone(f.cells)})
	}
	return made
}

// look tells of the files of the model what look tells of a disk's.
func (m *model) look() []seen {
	var all []seen
	for _, f := range m.files {
		s, b := seen{name: f.name}, []byte(nil)
		for _, c := range f.cells {
			b = append(b, c.b)
			if c.loose {
				s.loose++
			}
		}
		s.bytes = string(b)
		all = append(all, s)
	}
	sort.Slice(all, func(i, j int) bool { return all[i].name < all[j].name })
	return all
}

// some returns one of the values.
func some[T any](r *rand.Rand, of ...T) T {
	return of[r.Intn(len(of))]
}

func someName(r *rand.Rand) string {
	return some(r, "a", "b", "c", "d", "e", "a-", "0", "0123456789abcdef", number(r.Intn(64)), some(r, badNames()...))
}

func someBytes(r *rand.Rand) []byte {
	b := make([]byte, some(r, 0, 1, 2, 3, r.Intn(20), r.Intn(200)))
	r.Read(b)
	return b
}

func someTears(r *rand.Rand) []Tear {
	tears := make([]Tear, r.Intn(9))
	for i := range tears {
		tears[i] = Tear{some[uint16](r, 0, 1, 2, 3, 20, 65535), some(r, uint16(r.Intn(8)), 8, 9, 65535)}
	}
	return tears
}

// pair is a disk and the model that it is held against.
type pair struct {
	d *Disk
	m *model
}

func newPair() pair {
	return pair{New(), &model{}}
}

// step makes a call on both, with what was told of it: the call, the disk's answer and the model's.
func (p pair) step(r *rand.Rand) (about string, got, want api.Errno) {
	name := someName(r)
	switch r.Intn(9) {
	case 0, 1, 2:
		b := someBytes(r)
		return "Append to " + name, p.d.Append(name, b), p.m.append(name, b)
	case 3, 4:
		return "Sync of " + name, p.d.Sync(name), p.m.sync(name)
	case 5:
		n := some(r, -1, 0, 1, 2, 5, r.Intn(30), math.MaxInt, math.MinInt)
		return "Cut of " + name, p.d.Cut(name, n), p.m.cut(name, n)
	case 6:
		other := some(r, name, someName(r))
		return "Rename of " + name + " to " + other, p.d.Rename(name, other), p.m.rename(name, other)
	case 7:
		return "Remove of " + name, p.d.Remove(name), p.m.remove(name)
	}
	if r.Intn(4) > 0 {
		return "nothing", api.OK, api.OK
	}
	tears := someTears(r)
	p.d.Crash(tears...)
	p.m.crash(tears)
	return "Crash", api.OK, api.OK
}

// agree holds all that a disk tells against its model.
func (p pair) agree(t *testing.T, about string) {
	t.Helper()
	if got, want := look(t, p.d), p.m.look(); !slices.Equal(got, want) {
		t.Fatalf("P6.1: behind %s: %+v, want %+v", about, got, want)
	}
	wantCounts(t, "behind "+about, p.d, p.m.writes, p.m.syncs)
}

// TestAnyCalls makes any calls on disks and on their copies, and holds each against a model behind each call.
func TestAnyCalls(t *testing.T) {
	r := rand.New(rand.NewSource(1))
	for range 60 {
		pairs := []pair{newPair()}
		for range 400 {
			p := some(r, pairs...)
			about, got, want := p.step(r)
			if got != want {
				t.Fatalf("P6.1: %s: %d, want %d", about, got, want)
			}
			if len(pairs) < 3 && r.Intn(60) == 0 {
				pairs = append(pairs, pair{p.d.Copy(), p.m.copy()})
			}
			for _, p := range pairs {
				p.agree(t, about)
			}
		}
	}
}

// TestAnyCrash tears any files: what was synced stays, whatever tears there are.
func TestAnyCrash(t *testing.T) {
	r := rand.New(rand.NewSource(2))
	for range 5000 {
		p := newPair()
		synced := map[string]string{}
		for range r.Intn(8) {
			name, b, more := some(r, "a", "b", "c", "d", "e"), someBytes(r), someBytes(r)
			p.d.Append(name, b)
			p.m.append(name, b)
			p.d.Sync(name)
			p.m.sync(name)
			p.d.Append(name, more)
			p.m.append(name, more)
			whole, _ := p.d.Read(name)
			synced[name] = string(whole[:len(whole)-len(more)])
		}
		tears := someTears(r)
		p.d.Crash(tears...)
		p.m.crash(tears)
		p.agree(t, "a crash")
		for name, stays := range synced {
			if b, e := p.d.Read(name); e != api.OK || !strings.HasPrefix(string(b), stays) || p.d.Loose(name) != 0 {
				t.Fatalf("P6.2: %q was synced, and %q remains, %d", stays, b, e)
			}
		}
	}
}

// TestP1 calls everything with odd arguments, on disks that are new, used, zero and nil: every call ends without a panic.
func TestP1(t *testing.T) {
	r := rand.New(rand.NewSource(3))
	used := crowd(t)
	for range 3000 {
		for _, d := range []*Disk{New(), used, {}, nil} {
			name, other := someName(r), someName(r)
			for _, call := range []func(){
				func() { d.Append(name, someBytes(r)) },
				func() { d.Sync(name) },
				func() { d.Cut(name, int(r.Uint64())>>r.Intn(64)) },
				func() { d.Rename(name, other) },
				func() { d.Remove(name) },
				func() { d.Read(name) },
				func() { d.Names() },
				func() { d.Loose(name) },
				func() { d.Crash(someTears(r)...) },
				func() { d.Copy() },
				func() { d.Counts() },
			} {
				if r.Intn(2) == 0 {
					call()
				}
			}
		}
	}
}

// TestP1Great gives great arguments: every call ends.
func TestP1Great(t *testing.T) {
	d, long := New(), strings.Repeat("x", 1<<24)
	put(t, d, "a", "stay", "L")
	for about, e := range map[string]api.Errno{
		"Append to a long name": d.Append(long, nil) - api.ErrName,
		"Append of many bytes":  d.Append("a", []byte(long)) - api.ErrFull,
		"Sync of a long name":   d.Sync(long) - api.ErrNone,
		"Cut of a long name":    d.Cut(long, 0) - api.ErrNone,
		"Rename of a long name": d.Rename(long, "b") - api.ErrNone,
		"Rename to a long name": d.Rename("a", long) - api.ErrName,
		"Remove of a long name": d.Remove(long) - api.ErrNone,
	} {
		if e != 0 {
			t.Errorf("P1: %s: another error, by %d", about, e)
		}
	}
	d.Crash(slices.Repeat([]Tear{{Keep: 1, Bit: 0}}, 1<<22)...)
	want(t, "P1: a crash with many tears", d, seen{"a", "stayM", 0})
}

func TestR1(t *testing.T) {
	if n := math.MaxInt; uint64(n) != 1<<63-1 {
		t.Error("R1: int hasn't 64 bits")
	}
}

// TestR2: where several errors apply, the one that is named first is told.
func TestR2(t *testing.T) {
	d, much := crowd(t), make([]byte, api.MaxFile+1)
	wantError(t, "R2: no value, the 65th file, and too long", d.Append("A", much), api.ErrName)
	wantError(t, "R2: no value and the 65th file", d.Append("", nil), api.ErrName)
	wantError(t, "R2: the 65th file, and too long", d.Append("a", much), api.ErrMany)
	wantError(t, "R2: one of 64 files, too long", d.Append(number(0), much[:api.MaxFile]), api.ErrFull)
	wantError(t, "R2: no value, and too long", New().Append("A", much), api.ErrName)
	wantError(t, "R2: Cut of no file, to a negative length", d.Cut("a", -1), api.ErrNone)
	wantError(t, "R2: Cut of no file, behind its end", d.Cut("a", 1), api.ErrNone)
	wantError(t, "R2: Rename of no file to no value", d.Rename("a", "A"), api.ErrNone)
	var absent *Disk
	wantError(t, "R2: Append of no disk, to no value", absent.Append("A", much), api.ErrNil)
	wantError(t, "R2: Cut of no disk, to a negative length", absent.Cut("a", -1), api.ErrNil)
	wantError(t, "R2: Rename of no disk, to no value", absent.Rename("a", "A"), api.ErrNil)
}

// TestR3: beside an error Read answers nothing at all.
func TestR3(t *testing.T) {
	for _, d := range []*Disk{New(), crowd(t), {}, nil} {
		for _, name := range append(badNames(), "a", "file") {
			if b, e := d.Read(name); b != nil || e == api.OK {
				t.Errorf("R3: Read(%q): %q, %d", name, b, e)
			}
		}
	}
}

// TestR4 makes calls that are refused: the files, what is loose of them and the counts stay as they were.
func TestR4(t *testing.T) {
	d, much := crowd(t), make([]byte, api.MaxFile+1)
	d.Sync(number(1))
	d.Append(number(1), []byte("loose"))
	was := look(t, d)
	for about, call := range map[string]func() api.Errno{
		"Append to no value":     func() api.Errno { return d.Append("A", nil) },
		"Append to a 65th file":  func() api.Errno { return d.Append("a", nil) },
		"Append of too much":     func() api.Errno { return d.Append(number(1), much) },
		"Sync of no file":        func() api.Errno { return d.Sync("a") },
		"Cut of no file":         func() api.Errno { return d.Cut("a", 0) },
		"Cut behind the end":     func() api.Errno { return d.Cut(number(1), 7) },
		"Cut at -1":              func() api.Errno { return d.Cut(number(1), -1) },
		"Rename of no file":      func() api.Errno { return d.Rename("a", number(1)) },
		"Rename to no value":     func() api.Errno { return d.Rename(number(1), "A") },
		"Rename to a long value": func() api.Errno { return d.Rename(number(1), strings.Repeat("a", 17)) },
		"Remove of no file":      func() api.Errno { return d.Remove("a") },
		"Read of no file":        func() api.Errno { _, e := d.Read("a"); return e },
	} {
		if e := call(); e == api.OK {
			t.Errorf("P6.1: %s is allowed", about)
		}
		want(t, "R4: "+about, d, was...)
		wantCounts(t, "behind "+about, d, 65, 1)
	}
	d.Crash()
	if b, _ := d.Read(number(1)); string(b) != "\x01" {
		t.Errorf("R4: refused calls have changed what is synced: %q", b)
	}
}

func TestR5(t *testing.T) {
	for _, b := range [][]byte{nil, {}} {
		d := New()
		wantError(t, "R5: Append of an empty list", d.Append("a", b), api.OK)
		put(t, d, "b", "x", "y")
		wantError(t, "R5: Append of an empty list", d.Append("b", b), api.OK)
		want(t, "R5: an empty list of bytes", d, seen{"a", "", 0}, seen{"b", "xy", 1})
		wantCounts(t, "of empty lists", d, 4, 1)
	}
	for _, tears := range [][]Tear{nil, {}} {
		d := New()
		put(t, d, "a", "x", "y")
		d.Crash(tears...)
		want(t, "R5: an empty list of tears", d, seen{"a", "x", 0})
	}
}

// TestR6Arguments: bytes and tears that are handed in stay as they are, with what lies behind them, and none of them is kept.
func TestR6Arguments(t *testing.T) {
	for _, stays := range []string{"", "x", "a longer text"} {
		whole := []byte("abcdefgh")
		tears := []Tear{{1, 0}, {2, 1}, {3, 2}, {4, 3}}
		wasTears := slices.Clone(tears)
		d := New()
		put(t, d, "a", stays, "")
		d.Append("a", whole[:3])
		d.Append("b", whole[:3])
		d.Append("b", whole[2:4])
		d.Sync("b")
		d.Cut("b", 4)
		d.Append("b", []byte("!!!!!"))
		d.Crash(tears[:2]...)
		d.Append("a", []byte("!!!!!"))
		if string(whole) != "abcdefgh" || !slices.Equal(tears, wasTears) {
			t.Errorf("R6: arguments are changed: %q, %v", whole, tears)
		}
		clear(whole)
		clear(tears)
		want(t, "R6: arguments that are changed behind the calls", d, seen{"a", stays + "`!!!!!", 5}, seen{"b", "abcc!#", 0})
	}
}

// TestR6Results: bytes that were read are the caller's, and so are names; what is done to the disk doesn't reach them.
func TestR6Results(t *testing.T) {
	d := New()
	put(t, d, "a", "o", "ne")
	put(t, d, "b", "two", "")
	first, _ := d.Read("a")
	second, _ := d.Read("a")
	names := d.Names()
	for _, b := range [][]byte{first[:cap(first)], append(first, "!!!"...)} {
		for i := range b {
			b[i] = '!'
		}
	}
	clear(names[:cap(names)])
	want(t, "R6: what was read is changed", d, seen{"a", "one", 2}, seen{"b", "two", 0})
	if string(second) != "one" {
		t.Errorf("R6: two lists that were read share memory: %q", second)
	}
	d.Append("a", []byte("!!!"))
	want(t, "R6: Append behind a Read", d, seen{"a", "one!!!", 5}, seen{"b", "two", 0})
	third, names := must(d.Read("a")), d.Names()
	d.Crash(Tear{Keep: 1, Bit: 0})
	d.Cut("a", 0)
	d.Append("a", []byte("????"))
	d.Remove("b")
	if string(second) != "one" || string(third) != "one!!!" || !slices.Equal(names, []string{"a", "b"}) {
		t.Errorf("R6: the disk's calls change what was read: %q, %q, %q", second, third, names)
	}
}

// must returns what was read, of a file that is there.
func must(b []byte, e api.Errno) []byte {
	if e != api.OK {
		panic(e)
	}
	return b
}

// TestR7: without a disk nothing is done.
func TestR7(t *testing.T) {
	var d *Disk
	for about, e := range map[string]api.Errno{
		"Append": d.Append("a", []byte("x")),
		"Sync":   d.Sync("a"),
		"Cut":    d.Cut("a", 0),
		"Rename": d.Rename("a", "b"),
		"Remove": d.Remove("a"),
	} {
		wantError(t, "R7: "+about+" of no disk", e, api.ErrNil)
	}
	if b, e := d.Read("a"); b != nil || e != api.ErrNil {
		t.Errorf("R7: Read of no disk: %q, %d", b, e)
	}
	if names, n := d.Names(), d.Loose("a"); len(names) != 0 || n != 0 {
		t.Errorf("R7: no disk has files %q, and %d loose bytes", names, n)
	}
	d.Crash()
	d.Crash(Tear{Keep: 1})
	wantCounts(t, "of no disk", d, 0, 0)
	want(t, "P6.2: a copy of no disk", d.Copy())
}

// TestR8: the same calls have the same answers, whatever other disks are asked between them, and what asks changes nothing.
func TestR8(t *testing.T) {
	for seed := range int64(30) {
		r, again, other := rand.New(rand.NewSource(seed)), rand.New(rand.NewSource(seed)), rand.New(rand.NewSource(seed+1000))
		p, q, beside := newPair(), newPair(), newPair()
		for range 200 {
			about, e, _ := p.step(r)
			beside.step(other)
			p.d.Names()
			p.d.Loose("a")
			p.d.Read("a")
			p.d.Copy()
			p.d.Counts()
			if aboutAgain, eAgain, _ := q.step(again); about != aboutAgain || e != eAgain {
				t.Fatalf("R8: %s: %d, and %s: %d", about, e, aboutAgain, eAgain)
			}
		}
		if !reflect.DeepEqual(look(t, p.d), look(t, q.d)) {
			t.Fatal("R8: two disks of the same calls differ")
		}
		if c, d := p.d.Copy(), p.d.Copy(); !reflect.DeepEqual(look(t, c), look(t, d)) || !bytes.Equal(must(readAll(c)), must(readAll(d))) {
			t.Fatal("R8: two copies differ")
		}
	}
}

// readAll returns the bytes of all files, one behind the other.
func readAll(d *Disk) ([]byte, api.Errno) {
	var all []byte
	for _, name := range d.Names() {
		b, e := d.Read(name)
		if e != api.OK {
			return nil, e
		}
		all = append(all, b...)
	}
	return all, api.OK
}
