package journal

import (
	"math/rand"
	"slices"
	"testing"

	"watchfire/api"
	"watchfire/crc"
	"watchfire/disk"
)

// left returns how many records are there behind a crash: those that lie wholly in what the tear keeps, but for one whose last byte has a flipped bit.
func left(contents [][]byte, synced int, tear disk.Tear) int {
	kept := min(synced+int(tear.Keep), len(joined(contents)))
	if kept > synced && tear.Bit < 8 {
		kept--
	}
	records, _ := wholeAt(contents, kept)
	return records
}

// wantLeft opens a journal behind a crash, twice, and appends: what is left is there, and then what was appended.
func wantLeft(t *testing.T, about string, d *disk.Disk, contents [][]byte) {
	t.Helper()
	open(t, about, d, "a", contents...)
	wantFile(t, "P5: "+about, d, "a", joined(contents), 0)
	d.Crash(disk.Tear{Keep: 1})
	open(t, about+", and another one", d, "a", contents...)
	j := open(t, about+", again", d, "a", contents...)
	wantError(t, "P5: Append behind a crash", j.Append([]byte("behind")), api.OK)
	wantError(t, "P5: Sync behind a crash", j.Sync(), api.OK)
	d.Crash()
	open(t, about+", with a record more", d, "a", append(slices.Clip(contents), []byte("behind"))...)
}

// TestCrashEach syncs at each record, and then keeps each number of loose bytes and turns each bit of the last one.
func TestCrashEach(t *testing.T) {
	for _, contents := range lists() {
		all := joined(contents)
		if len(all) == 0 || len(all) > 100 {
			continue
		}
		for stays := range len(contents) + 1 {
			synced := len(joined(contents[:stays]))
			for keep := range uint16(len(all) - synced + 2) {
				for bit := range uint16(9) {
					d := disk.New()
					j := open(t, "of no file", d, "a")
					for i, c := range contents {
						if i == stays {
							j.Sync()
						}
						j.Append(c)
					}
					if stays == len(contents) {
						j.Sync()
					}
					tear := disk.Tear{Keep: keep, Bit: bit}
					d.Crash(tear)
					records := left(contents, synced, tear)
					if records < stays {
						t.Fatalf("P5: of %d records that were synced %d are left", stays, records)
					}
					wantLeft(t, "behind a crash", d, contents[:records])
				}
			}
		}
	}
}

// TestCrashLong tears great records.
func TestCrashLong(t *testing.T) {
	for _, keep := range []uint16{0, 7, 8, 1000, 65535} {
		d := disk.New()
		j := open(t, "of no file", d, "a")
		j.Append(someBytes(great))
		j.Sync()
		j.Append([]byte("small"))
		j.Append(someBytes(300000))
		tear := disk.Tear{Keep: keep, Bit: 8}
		d.Crash(tear)
		contents := [][]byte{someBytes(great), []byte("small"), someBytes(300000)}
		wantLeft(t, "behind a crash of great records", d, contents[:left(contents, great+8, tear)])
	}
}

// model is a journal's plain list of records, and how many bytes of them stay.
type model struct {
	contents [][]byte
	synced   int
}

func (m *model) size() int { return len(joined(m.contents)) }

// pair is a journal and the model that it is held against.
type pair struct {
	j *Journal
	m *model
}

// step makes a call on both, and holds what is answered, and what the disk's counts tell, against the model.
func (p pair) step(t *testing.T, r *rand.Rand, d *disk.Disk) {
	t.Helper()
	writes, syncs := d.Counts()
	switch r.Intn(5) {
	case 0, 1, 2:
		content := someBytes([]int{0, 1, 2, r.Intn(20), r.Intn(300)}[r.Intn(5)])
		wantError(t, "P7.2: Append", p.j.Append(content), api.OK)
		p.m.contents = append(p.m.contents, content)
		writes++
	case 3:
		wantError(t, "P7.2: Append of a record that is too great", p.j.Append(make([]byte, great+1)), api.ErrLong)
	case 4:
		wantError(t, "P7.2: Sync", p.j.Sync(), api.OK)
		if p.m.synced < p.m.size() {
			p.m.synced = p.m.size()
			syncs++
		}
	}
	wantCounts(t, "a call", d, writes, syncs)
}

// agree holds a journal's file against its model.
func (p pair) agree(t *testing.T, d *disk.Disk) {
	t.Helper()
	if p.j.Size() != p.m.size() {
		t.Fatalf("P7.2: Size: %d, want %d", p.j.Size(), p.m.size())
	}
	if p.m.size() > 0 {
		wantFile(t, "P7.2: a journal's file", d, p.j.Name(), joined(p.m.contents), p.m.size()-p.m.synced)
	}
}

// crash tears the files of all journals, whose names ascend, and opens them again.
func crash(t *testing.T, r *rand.Rand, d *disk.Disk, pairs []pair) {
	t.Helper()
	var tears []disk.Tear
	for _, p := range pairs {
		tear := disk.Tear{Keep: uint16(r.Intn(40)), Bit: uint16(r.Intn(10))}
		if r.Intn(3) == 0 {
			tear.Keep = []uint16{0, 65535}[r.Intn(2)]
		}
		if slices.Contains(d.Names(), p.j.Name()) {
			tears = append(tears, tear)
		}
		p.m.contents = p.m.contents[:left(p.m.contents, p.m.synced, tear)]
		if p.m.size() < p.m.synced {
			t.Fatalf("P5: %d bytes were synced, %d are left", p.m.synced, p.m.size())
		}
		p.m.synced = p.m.size()
	}
	d.Crash(tears...)
	for i, p := range pairs {
		for range 1 + r.Intn(2) {
			pairs[i].j = open(t, "behind a crash", d, p.j.Name(), p.m.contents...)
		}
	}
}

// TestAnyCalls makes any calls on journals that share a disk, with crashes between them, and holds each against its model.
func TestAnyCalls(t *testing.T) {
	r := rand.New(rand.NewSource(1))
	for range 150 {
		d := disk.New()
		var pairs []pair
		for _, name := range []string{"a", "b", "ledger", "s.0"} {
			pairs = append(pairs, pair{open(t, "of no file", d, name), &model{}})
		}
		for range 80 {
			pairs[r.Intn(len(pairs))].step(t, r, d)
			if r.Intn(12) == 0 {
				crash(t, r, d, pairs)
			}
			if i := r.Intn(len(pairs)); r.Intn(12) == 0 {
				p := pairs[i]
				pairs[i].j = open(t, "again", d, p.j.Name(), p.m.contents...)
				p.m.synced = p.m.size()
			}
			for _, p := range pairs {
				p.agree(t, d)
			}
		}
	}
}

// TestAnyFile opens files of any bytes: what Scan finds is there, and opening again answers the same.
func TestAnyFile(t *testing.T) {
	r := rand.New(rand.NewSource(2))
	for range 3000 {
		all := joined(lists()[r.Intn(len(lists()))])
		for range r.Intn(3) {
			all = slices.Insert(all, r.Intn(len(all)+1), byte(r.Intn(256)))
		}
		if r.Intn(2) == 0 {
			all = append(all, joined(lists()[r.Intn(len(lists()))])...)
		}
		stays := r.Intn(len(all) + 1)
		d := onDisk("a", all[:stays], all[stays:])
		contents, end := Scan(crc.New(), all)
		open(t, "of any bytes", d, "a", contents...)
		wantFile(t, "P7.2: Open of any bytes", d, "a", all[:end], 0)
		d.Crash()
		open(t, "of any bytes, again", d, "a", contents...)
	}
}
