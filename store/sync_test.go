package store

import (
	"fmt"
	"slices"
	"testing"

	"watchfire/api"
	"watchfire/disk"
	"watchfire/item"
	"watchfire/spool"
)

// fillTo puts events of an origin until the file has so many bytes, of which at least 20 are to go. The events evict each other.
func fillTo(t *testing.T, s *Store, origin uint8, size int) {
	t.Helper()
	for {
		is, _ := s.Sizes()
		// A record has 9 bytes beside its event, which has from 13 to 45 here, so that what is left behind it is enough for another one.
		n := size - is - 9
		if n > 45 {
			n = min(n-9-13, 30)
		}
		puts(t, s, sized(origin, s.Spool().High(origin)+1, 0, n))
		if size == is+9+n {
			return
		}
	}
}

// TestFillTo: the helper fills a file to each size.
func TestFillTo(t *testing.T) {
	for size := 40; size < 400; size++ {
		s := open(t, "an empty disk", disk.New(), 1, 64)
		fillTo(t, s, 2, size)
		if is, _ := s.Sizes(); is != size {
			t.Errorf("a file of %d bytes, want %d", is, size)
		}
	}
}

// wantRenewed syncs a store whose file is too long: the next generation's file is a snapshot alone.
func wantRenewed(t *testing.T, about string, s *Store, d *disk.Disk, others ...string) {
	t.Helper()
	want := stateOf(s)
	syncs(t, "of "+about, s)
	fires := make([]api.Item, len(want.fires))
	for i, v := range want.fires {
		fires[i] = item.Of(v)
	}
	b := snapshotRecord(want.life, want.base, fires...)
	want.gen++
	want.bytes = 8 + len(b)
	want.room = want.bytes + 4*want.quota + 1024
	wantState(t, "P9.2: Sync of "+about, s, want)
	wantNames(t, "P9.2: Sync of "+about, d, append(slices.Clone(others), fmt.Sprint("s.", want.gen))...)
	wantFile(t, "P9.2: Sync of "+about, d, fmt.Sprint("s.", want.gen), laid(b), 0)
}

// wantLeft syncs a store whose file is not too long: nothing is loose then, and nothing else changes.
func wantLeft(t *testing.T, about string, s *Store, d *disk.Disk) {
	t.Helper()
	was := stateOf(s)
	name := fmt.Sprint("s.", was.gen)
	all, _ := d.Read(name)
	syncs(t, "of "+about, s)
	wantState(t, "P9.2: Sync of "+about, s, was)
	wantNames(t, "P9.2: Sync of "+about, d, name)
	wantFile(t, "P9.2: Sync of "+about, d, name, all, 0)
}

// TestRoom: Sync leaves a file of Room bytes, and writes one of a byte more anew, again and again; so it is behind Open, too.
func TestRoom(t *testing.T) {
	for _, quota := range []int{64, 100, 1000} {
		for _, beyond := range []int{0, 1} {
			d := disk.New()
			s := open(t, "an empty disk", d, 1, quota)
			puts(t, s, firing(1, 1, "a"), firing(1, 2, "b", api.Pair{Key: "a", Value: "b"}))
			first := 0
			for gen := range 6 {
				if s.Room() != first+4*quota+1024 {
					t.Fatalf("P9.2: Room of generation %d: %d", gen, s.Room())
				}
				fillTo(t, s, 2, s.Room()+beyond)
				if beyond == 0 {
					wantLeft(t, "a file of Room bytes", s, d)
					wantLeft(t, "a file of Room bytes, again", s, d)
					puts(t, s, event(3, s.Spool().High(3)+1, 7))
				}
				wantRenewed(t, "a file of more bytes than Room", s, d)
				first, _ = s.Sizes()
				for range 3 {
					wantLeft(t, "a file that is new", s, d)
				}
				if gen%2 == 1 {
					d.Crash()
					s = open(t, "a file that is new", d, 1, quota)
				}
			}
		}
	}
}

// TestOpenRenews: Open leaves a file that has Room bytes with the new life, and writes one of a byte more anew, with that life.
func TestOpenRenews(t *testing.T) {
	for beyond := -2; beyond <= 2; beyond++ {
		for gen := range 2 {
			d := disk.New()
			s := open(t, "an empty disk", d, 1, 64)
			puts(t, s, firing(1, 1, "a"))
			for range gen {
				fillTo(t, s, 2, s.Room()+1)
				syncs(t, "of a long file", s)
			}
			fillTo(t, s, 2, s.Room()-10+beyond)
			want, name := stateOf(s), fmt.Sprint("s.", gen)
			d.Crash(disk.Tear{Keep: 65535, Bit: 8})
			all, _ := d.Read(name)
			s = open(t, "a long file", d, 1, 64)
			want.life = 2
			all = append(all, laid(lifeRecord(2))...)
			if beyond > 0 {
				name = fmt.Sprint("s.", gen+1)
				all = laid(snapshotRecord(2, want.base, firing(1, 1, "a")))
				want.gen++
				want.room = len(all) + 4*64 + 1024
			}
			want.bytes = len(all)
			wantState(t, "P9.1: Open of a long file", s, want)
			wantNames(t, "P9.1: Open of a long file", d, name)
			wantFile(t, "P9.1: Open of a long file", d, name, all, 0)
		}
	}
}

// TestOpenAgain: opening again without anything between changes nothing but the life, however often.
func TestOpenAgain(t *testing.T) {
	d := disk.New()
	s := open(t, "an empty disk", d, 1, 64)
	puts(t, s, firing(1, 1, "a"), event(2, 1, 0), own(3, 1, 20), firing(1, 2, "b"), event(2, 2, 7), event(2, 3, 7), gap(4, 1, 99))
	wantError(t, "P9.2: Ack", s.Ack(2), api.OK)
	syncs(t, "behind that", s)
	want := stateOf(s)
	for life := uint64(2); life < 400; life++ {
		if life%3 == 0 {
			d.Crash()
		}
		s = open(t, "a store, again", d, 1, 64)
		if s.Life() != life {
			t.Fatalf("P9.3: life %d, want %d", s.Life(), life)
		}
		wantKept(t, "P9.4: Open again", s, want)
	}
	if _, gen := s.Sizes(); gen == 0 {
		t.Error("P9.2: lives alone never make a file too long")
	}
}

// TestFiles: of several generations the greatest is opened; the others, and a file named new, go; all other files stay, whatever they have in common with those.
func TestFiles(t *testing.T) {
	others := []string{"s.", "s", "s.00", "s.01", "s.07", "s.1a", "s.-1", "s.1.", "s.1.0", "s..1", "s_1", "t.1", "s1", "new.", "new0", "news", "x.new", "ledger", "ss.1", "1", "s.x"}
	for _, gens := range [][]uint64{nil, {0}, {1}, {0, 1}, {7, 8}, {9, 10}, {2, 10, 11, 100}, {0, 99999999999998}, {4, 99999999999999}} {
		for _, hasNew := range []bool{false, true} {
			d := disk.New()
			for _, name := range others {
				d.Append(name, laid(lifeRecord(500), []byte{9}))
			}
			if hasNew {
				d.Append("new", laid(snapshotRecord(77, spool.Base{Next: 1})))
			}
			last := uint64(0)
			for _, gen := range gens {
				add(d, fmt.Sprint("s.", gen), laid(lifeRecord(gen+1)))
				last = gen
			}
			s := open(t, "several files", d, 1, 64)
			want := state{life: 1, next: 1, quota: 64, gen: last, base: spool.Base{Next: 1}, room: 1280}
			file := laid(lifeRecord(1))
			if len(gens) > 0 {
				want.life = last + 2
				file = laid(lifeRecord(last+1), lifeRecord(last+2))
			}
			want.bytes = len(file)
			wantState(t, "P9.1: Open of several files", s, want)
			name := fmt.Sprint("s.", last)
			wantNames(t, "P9.1: Open of several files", d, append([]string{name}, others...)...)
			wantFile(t, "P9.1: Open of several files", d, name, file, 0)
			for _, other := range others {
				wantFile(t, "P9.1: another file", d, other, laid(lifeRecord(500), []byte{9}), len(laid(lifeRecord(500), []byte{9})))
			}
		}
	}
}

// TestBadOlderFile: what stands in files of lower generations is not asked for.
func TestBadOlderFile(t *testing.T) {
	d := onDisk("s.1", laid([]byte{9}))
	add(d, "s.0", laid(putRecord(event(1, 1, 0))))
	add(d, "s.2", nil)
	s := open(t, "a bad older file", d, 1, 64)
	wantState(t, "P9.1: an empty newest file", s, state{life: 1, next: 1, quota: 64, gen: 2, base: spool.Base{Next: 1}, bytes: 10, room: 1280})
	wantNames(t, "P9.1: an empty newest file", d, "s.2")
}

// TestSyncFiles: Sync leaves other files, and replaces those in its way.
func TestSyncFiles(t *testing.T) {
	d := disk.New()
	add(d, "s.01", []byte("other"))
	add(d, "news", []byte("other"))
	s := open(t, "an empty disk", d, 1, 64)
	for range 2 {
		_, gen := s.Sizes()
		d.Append("new", []byte("in the way"))
		add(d, fmt.Sprint("s.", gen+1), laid(lifeRecord(99)))
		fillTo(t, s, 2, s.Room()+1)
		wantRenewed(t, "a long file among others", s, d, "s.01", "news")
	}
	wantFile(t, "P9.2: another file", d, "s.01", []byte("other"), 0)
	wantFile(t, "P9.2: another file", d, "news", []byte("other"), 0)
}

// TestSyncOnce: Sync writes nothing where nothing is loose.
func TestSyncOnce(t *testing.T) {
	d := disk.New()
	s := open(t, "an empty disk", d, 1, 64)
	puts(t, s, event(1, 1, 0))
	syncs(t, "behind Put", s)
	writes, was := d.Counts()
	syncs(t, "again", s)
	if w, is := d.Counts(); w != writes || is != was {
		t.Errorf("P9.2: Sync of what is synced: %d writes, %d syncs, want %d, %d", w, is, writes, was)
	}
}

// TestSyncMany: on a disk of 64 files there is no room for a new one, unless one named new is there.
func TestSyncMany(t *testing.T) {
	d := disk.New()
	s := open(t, "an empty disk", d, 1, 64)
	fillTo(t, s, 2, s.Room()+1)
	crowd(d, api.MaxFiles)
	wantUnchanged(t, "P9.2: Sync among 64 files", s, d, api.ErrMany, s.Sync)
	wantRefused(t, "a long file among 64", d, 1, 64, api.ErrMany)
	d.Remove("other5")
	add(d, "new", []byte("in the way"))
	others := d.Names()
	others = slices.DeleteFunc(others, func(name string) bool { return name == "new" || name == "s.0" })
	open(t, "a long file among 64, one of them new", d.Copy(), 1, 64)
	wantRenewed(t, "a long file among 64, one of them new", s, d, others...)
}

// TestOpenMany: the first file of all finds room on a disk of 63 files, also if one of 64 is named new, and none beside 64 others.
func TestOpenMany(t *testing.T) {
	d := disk.New()
	crowd(d, api.MaxFiles)
	wantRefused(t, "64 other files", d, 1, 64, api.ErrMany)
	d.Rename("other3", "new")
	open(t, "63 other files, and one named new", d, 1, 64)
	if names := d.Names(); len(names) != 64 || slices.Contains(names, "new") || !slices.Contains(names, "s.0") {
		t.Errorf("P9.1: the files are %q", names)
	}
}

// lives returns a file of so many bytes, of records of lives alone, of which the last one is 100.
func lives(size int) []byte {
	// One of a life from 128 up takes 11 bytes, and one below it takes 10.
	longer := size % 10
	contents := slices.Repeat([][]byte{lifeRecord(200)}, longer)
	return laid(append(contents, slices.Repeat([][]byte{lifeRecord(100)}, (size-11*longer)/10)...)...)
}

// TestOpenFull: a file without room for another life is refused, and nothing changes. One with room for just that is written anew.
func TestOpenFull(t *testing.T) {
	d := onDisk("s.1", lives(api.MaxFile-9))
	add(d, "new", nil)
	add(d, "s.0", nil)
	wantRefused(t, "a full file", d, 1, 64, api.ErrFull)
	d = onDisk("s.1", lives(api.MaxFile-10))
	s := open(t, "a file that the next life fills", d, 1, 64)
	size := 8 + len(snapshotRecord(101, spool.Base{Next: 1}))
	wantState(t, "P9.1: Open of a full file", s, state{life: 101, next: 1, quota: 64, gen: 2, base: spool.Base{Next: 1}, bytes: size, room: size + 1280})
	wantNames(t, "P9.1: Open of a full file", d, "s.2")
}

// TestLastGeneration: behind 99999999999999 there is no name for another one. Sync, and Open, which needs it, are refused.
func TestLastGeneration(t *testing.T) {
	name := "s.99999999999999"
	d := onDisk(name, nil)
	s := open(t, "the last generation", d, 1, 64)
	fillTo(t, s, 2, s.Room())
	syncs(t, "of the last generation", s)
	wantNames(t, "P9.2: Sync of the last generation", d, name)
	puts(t, s, event(1, 1, 0))
	wantUnchanged(t, "P9.2: Sync of the last generation", s, d, api.ErrName, s.Sync)
	wantRefused(t, "the last generation", d, 1, 64, api.ErrName)
}

// TestSyncLong: a snapshot of very many alerts is no record. Once some of them no longer fire, Sync works again.
func TestSyncLong(t *testing.T) {
	d := disk.New()
	s := open(t, "an empty disk", d, 1, api.MaxQuota)
	alert := func(seq uint64, number int, state api.State) api.Item {
		v := api.Event{Origin: 1, Seq: seq, Time: 1 << 40, Rule: "abcdefghijkl", State: state, Value: -1 << 63}
		for key := range uint8(8) {
			v.Labels = append(v.Labels, api.Pair{Key: "labelke" + string('a'+rune(key)), Value: fmt.Sprintf("%016d", number)})
		}
		return item.Of(v)
	}
	long := 2200
	for n := range long {
		puts(t, s, alert(uint64(n+1), n, api.Firing))
	}
	wantUnchanged(t, "P9.2: Sync of very many alerts", s, d, api.ErrLong, s.Sync)
	wantRefused(t, "very many alerts", d, 1, api.MaxQuota, api.ErrLong)
	for n := range 600 {
		puts(t, s, alert(uint64(long+n+1), n, api.Idle))
	}
	wantRenewed(t, "many alerts", s, d)
	want := stateOf(s)
	d.Crash()
	wantKept(t, "P9.4: many alerts", open(t, "many alerts", d, 1, api.MaxQuota), want)
}
