package store

import (
	"math"
	"math/rand"
	"reflect"
	"slices"
	"testing"

	"watchfire/api"
	"watchfire/crc"
	"watchfire/disk"
	"watchfire/item"
	"watchfire/journal"
	"watchfire/spool"
)

// oddItem returns an item of fields near the limits.
func oddItem(r *rand.Rand) api.Item {
	counts := []uint64{0, 1, 2, 5, 6, 7, api.MaxNumber, api.MaxNumber + 1, great}
	x := item.Gap(some(r, uint8(0), 1, 2, 31, 32, 255), some(r, counts...), some(r, counts...))
	x.IsGap = r.Intn(2) == 0
	x.Event = api.Event{
		Origin: some(r, uint8(0), 1, 2, 31, 32, 255), Seq: some(r, counts...), Time: some(r, counts...), Rule: some(r, "a", "own.a", ""),
		State: some(r, api.Idle, api.Firing, api.Pending), Prio: some(r, uint8(0), 7, 8), Own: some(r, uint8(0), 1, 3),
		Labels: make([]api.Pair, some(r, 0, 0, 0, 1, 9)),
	}
	return x
}

// stores returns stores of which nothing, something and much was made, one behind its last index, one whose file is gone, one on a full disk, the zero one and nil.
func stores(t *testing.T) []*Store {
	t.Helper()
	s, _, _ := long(t, 1)
	last := open(t, "the last index", onDisk("s.1", laid(snapshotRecord(great, spool.Base{Next: 1 << 40, Acked: 1<<40 - 1}))), 1, 64)
	gone := disk.New()
	lost := open(t, "an empty disk", gone, 1, 64)
	puts(t, lost, event(1, 1, 0))
	gone.Remove("s.0")
	packed := disk.New()
	crowd(packed, 63)
	among := open(t, "a full disk", packed, 1, 64)
	fillTo(t, among, 2, among.Room()+1)
	full := disk.New()
	within := open(t, "an empty disk", full, 1, 64)
	full.Append("s.0", make([]byte, api.MaxFile-30))
	return []*Store{nil, {}, s, last, lost, among, within, open(t, "an empty disk", disk.New(), 31, 64), open(t, "an empty disk", disk.New(), 0, 65536)}
}

// TestP1 calls everything with odd arguments, on odd stores: every call ends without a panic.
func TestP1(t *testing.T) {
	r := rand.New(rand.NewSource(3))
	indexes := []uint64{0, 1, 2, 3, 40, api.MaxNumber - 1, api.MaxNumber, api.MaxNumber + 1, great}
	for range 20 {
		for _, s := range stores(t) {
			for range 100 {
				s.Put(oddItem(r))
				if r.Intn(10) == 0 {
					s.Ack(some(r, indexes...))
				}
				if r.Intn(20) == 0 {
					s.Sync()
				}
				stateOf(s)
			}
		}
	}
}

// TestP1AnyFile opens files of any records, and of any bytes: every call ends without a panic. What is refused stays as it was; what is opened can be opened again, and is the same but for the life.
func TestP1AnyFile(t *testing.T) {
	r := rand.New(rand.NewSource(4))
	opened := 0
	for range 20000 {
		contents := [][]byte{lifeRecord(1), putRecord(event(1, 1, 0)), putRecord(firing(1, 2, "a")), ackRecord(1), putRecord(gap(2, 1, 5)), lifeRecord(2)}
		if r.Intn(2) == 0 {
			contents = append([][]byte{snapshotRecord(3, someBase(), firing(1, 3, "b"), firing(1, 5, "c"))}, contents...)
			contents[2], contents[3], contents[4], contents[5] = putRecord(event(1, 8, 1)), putRecord(firing(1, 9, "a")), ackRecord(4), putRecord(gap(2, 3, 15))
		}
		for range r.Intn(3) {
			b := contents[r.Intn(len(contents))]
			if len(b) > 0 {
				b[r.Intn(len(b))] = some(r, 0, 1, 2, 3, 4, 5, 0x7f, 0x80, 0xff, byte(r.Intn(256)))
			}
			if i := r.Intn(len(contents)); r.Intn(4) == 0 {
				contents[i] = contents[i][:r.Intn(len(contents[i])+1)]
			}
		}
		d := disk.New()
		d.Append(some(r, "s.0", "s.4"), laid(contents...))
		if r.Intn(4) == 0 {
			d.Append(some(r, "s.0", "s.3"), []byte("any bytes"))
		}
		on := image(d)
		s, e := Open(d, crc.New(), 1, some(r, 64, 100))
		if e != api.OK {
			if s != nil || image(d) != on {
				t.Fatalf("R4: Open of %x: %d, and the disk is another one", contents, e)
			}
			continue
		}
		opened++
		was := stateOf(s)
		s = open(t, "any file, again", d, 1, was.quota)
		wantKept(t, "P9.4: Open of any file, again", s, was)
		if s.Life() != was.life+1 {
			t.Fatalf("P9.1: life %d behind %d", s.Life(), was.life)
		}
	}
	if opened < 5000 {
		t.Errorf("only %d of any files are opened", opened)
	}
}

// TestP1Great fills a store of the greatest quota, again and again; its file stays below what a disk takes.
func TestP1Great(t *testing.T) {
	d := disk.New()
	s := open(t, "an empty disk", d, 1, api.MaxQuota)
	m := newModel(1, api.MaxQuota)
	for n := range 12000 {
		origin := uint8(n % 3)
		x := sized(origin, m.queue.High(origin)+1, uint8(n%8), 70)
		_, _, e := s.Put(x)
		_, _, want := m.put(x)
		if e != want || e != api.OK {
			t.Fatalf("P9.2: Put %d: %d, want %d", n, e, want)
		}
		if n%4000 == 3999 {
			syncs(t, "of a great store", s)
			m.sync()
			m.agree(t, "P9.2: a great store", s, d)
		}
	}
	if m.gen == 0 || s.Evicted() == 0 {
		t.Errorf("P9.2: generation %d, %d evicted", m.gen, s.Evicted())
	}
	wantError(t, "P9.2: Ack", s.Ack(11500), m.ack(11500))
	d.Crash(disk.Tear{Keep: 65535, Bit: 8})
	m.synced = len(m.file)
	m.open()
	m.agree(t, "P9.4: a great store behind a crash", open(t, "a great store", d, 1, api.MaxQuota), d)
}

func TestR1(t *testing.T) {
	if n := math.MaxInt; uint64(n) != 1<<63-1 {
		t.Error("R1: int hasn't 64 bits")
	}
}

// TestR2: where several errors apply, the one that is named first is told. (Those of Open stand in TestOpenFirst and TestFirstBadRecord, those of the spool ahead of the disk's in TestDiskErrors.)
func TestR2(t *testing.T) {
	long := onDisk("s.0", slices.Concat(lives(api.MaxFile-20), laid([]byte{9})))
	wantRefused(t, "a full file with kind 9", long, 1, 64, api.ErrKind)
	packed := onDisk("s.99999999999999", laid(putRecord(event(1, 2, 0))))
	crowd(packed, 64)
	wantRefused(t, "a bad file of the last generation among 64", packed, 1, 64, api.ErrJump)
	full := onDisk("s.0", lives(api.MaxFile-9))
	crowd(full, 64)
	wantRefused(t, "a full file among 64", full, 1, 64, api.ErrFull)
}

// roomy returns labels with spare capacity, and beside them the whole list whose memory they are.
func roomy() (labels, whole []api.Pair) {
	whole = []api.Pair{{Key: "a", Value: "one"}, {Key: "b", Value: "two"}, {Key: "spare", Value: "spare"}, {Key: "spare", Value: "spare"}}
	return whole[:2], whole
}

// TestR5: no labels are the same as an empty list of them.
func TestR5(t *testing.T) {
	d := disk.New()
	s := open(t, "an empty disk", d, 1, 64)
	none, empty := turn(1, api.Firing, "a"), turn(2, api.Firing, "a")
	none.Event.Labels, empty.Event.Labels = nil, []api.Pair{}
	puts(t, s, none, empty)
	wantFires(t, "no labels, and an empty list", s, 2)
	empty = turn(3, api.Idle, "a")
	empty.Event.Labels = []api.Pair{}
	none = turn(4, api.Firing, "a")
	puts(t, s, empty, none)
	wantFires(t, "an empty list, and no labels", s, 4)
	wantFile(t, "R5: empty lists", d, "s.0", laid(lifeRecord(1), putRecord(turn(1, api.Firing, "a")), putRecord(turn(2, api.Firing, "a")), putRecord(turn(3, api.Idle, "a")), putRecord(none)), 4*20)
}

// TestR6Arguments: an item that is put stays as it was, with what lies behind its labels, and what becomes of it later is not seen in the store.
func TestR6Arguments(t *testing.T) {
	labels, whole := roomy()
	was := slices.Clone(whole)
	d := disk.New()
	s := open(t, "an empty disk", d, 1, 100)
	x := turn(1, api.Firing, "a", labels...)
	x.Event.Labels = labels
	puts(t, s, x)
	s.Put(x)
	inGap := gap(2, 1, 5)
	inGap.Event.Labels = labels
	puts(t, s, inGap)
	want := stateOf(s)
	if !slices.Equal(whole, was) || !reflect.DeepEqual(x.Event.Labels, was[:2]) {
		t.Errorf("R6: Put changes %+v", whole)
	}
	clear(whole)
	wantState(t, "R6: Put keeps memory", s, want)
	if l := s.Fires(); !slices.Equal(l[0].Labels, was[:2]) {
		t.Errorf("R6: Put keeps memory: %+v", l)
	}
	wantKept(t, "R6: Put keeps memory", open(t, "what was put", d, 1, 100), want)
}

// TestR6Results: what is answered is the caller's, with its spare capacity; no two labels of one answer, nor those of two, share memory.
func TestR6Results(t *testing.T) {
	labels, _ := roomy()
	s := open(t, "an empty disk", disk.New(), 1, 300)
	var want []api.Event
	for seq, rule := range []string{"a", "b", "c"} {
		puts(t, s, turn(uint64(seq+1), api.Firing, rule, labels...))
		want = append(want, turn(uint64(seq+1), api.Firing, rule, labels...).Event)
	}
	one, other := s.Fires(), s.Fires()
	for i := range one[:cap(one)] {
		v := &one[:cap(one)][i]
		all := v.Labels[:cap(v.Labels)]
		for j := range all {
			all[j] = api.Pair{Key: "mine", Value: "mine"}
		}
		if i < len(one) && !sameEvents(one[i+1:], want[i+1:]) {
			t.Errorf("R6: two events of an answer share memory: %+v", one)
		}
		*v = api.Event{Rule: "mine"}
	}
	if got := s.Fires(); !sameEvents(got, want) || !sameEvents(other, want) {
		t.Errorf("R6: an answer is changed: %+v, %+v", got, other)
	}
	puts(t, s, turn(4, api.Idle, "a", labels...), turn(5, api.Firing, "d", labels...))
	if !sameEvents(other, want) {
		t.Errorf("R6: an answer goes on with its store: %+v", other)
	}
}

// TestR7: a nil store does nothing.
func TestR7(t *testing.T) {
	var s *Store
	for _, x := range []api.Item{event(1, 1, 0), gap(1, 1, 1), {}} {
		if index, from, e := s.Put(x); index != 0 || from != 0 || e != api.ErrNil {
			t.Errorf("R7: Put to a nil store: %d, %d, %d", index, from, e)
		}
	}
	for _, index := range []uint64{0, 1, great} {
		wantError(t, "R7: Ack of a nil store", s.Ack(index), api.ErrNil)
	}
	wantError(t, "R7: Sync of a nil store", s.Sync(), api.ErrNil)
	if s.Spool() != nil || len(s.Fires()) != 0 {
		t.Error("R7: what waits and fires in a nil store")
	}
	bytes, gen := s.Sizes()
	if s.Life() != 0 || s.Next() != 0 || s.Evicted() != 0 || bytes != 0 || gen != 0 || s.Room() != 0 {
		t.Error("R7: numbers of a nil store")
	}
}

// TestZero: the zero store has neither a spool nor a file.
func TestZero(t *testing.T) {
	s := &Store{}
	index, from, e := s.Put(event(1, 1, 0))
	if index != 0 || from != 0 || e != api.ErrNil {
		t.Errorf("P1: Put to the zero store: %d, %d, %d", index, from, e)
	}
	wantError(t, "P1: Ack of the zero store", s.Ack(1), api.ErrNil)
	wantError(t, "P1: Sync of the zero store", s.Sync(), api.ErrNil)
	if s.Spool() != nil || len(s.Fires()) != 0 || s.Life() != 0 {
		t.Error("P1: the zero store has something")
	}
}

// TestR8: the same calls have the same answers, whatever is asked of other stores between them, also of one on the same table.
func TestR8(t *testing.T) {
	for seed := range int64(10) {
		table := crc.New()
		var all []*Store
		var models []*model
		var rands []*rand.Rand
		var disks []*disk.Disk
		for _, s := range []int64{seed, seed, seed + 1000} {
			d := disk.New()
			made, e := Open(d, table, 1, 100)
			wantError(t, "P9.1: Open", e, api.OK)
			all, disks, models = append(all, made), append(disks, d), append(models, newModel(1, 100))
			rands = append(rands, rand.New(rand.NewSource(s)))
		}
		for range 200 {
			for i, s := range all {
				step(t, rands[i], s, models[i], 2)
			}
			if !sameState(stateOf(all[0]), stateOf(all[1])) || image(disks[0]) != image(disks[1]) {
				t.Fatalf("R8: the same calls leave %+v and %+v", stateOf(all[0]), stateOf(all[1]))
			}
		}
	}
}

// TestP4 puts any items, with crashes among them: each event that waits is the one that was put under its count, of which a gap covers only those that were evicted or put as a gap.
func TestP4(t *testing.T) {
	r := rand.New(rand.NewSource(5))
	for range 30 {
		d, m := disk.New(), newModel(1, 100)
		s := open(t, "an empty disk", d, 1, 100)
		for range 150 {
			step(t, r, s, m, 2)
			if r.Intn(20) == 0 {
				s = restart(t, r, m, d)
			}
			evicted := uint64(0)
			for _, entry := range s.Spool().Base().List {
				origin, from, to := item.Span(entry.Item)
				for _, one := range m.all {
					o, f, to2 := item.Span(one.x)
					if one.ack != 0 || o != origin || to2 < from || f > to || one.x.IsGap {
						continue
					}
					if entry.Item.IsGap {
						evicted++
					}
					if entry.Item.IsGap && item.Lasts(one.x) || !entry.Item.IsGap && !item.Same(one.x, entry.Item) {
						t.Fatalf("P4, P7: %+v waits where %+v was put", entry.Item, one.x)
					}
				}
			}
			if evicted > s.Evicted() {
				t.Fatalf("P9.3: %d are evicted, Evicted tells %d", evicted, s.Evicted())
			}
		}
	}
}

// TestP5: a count that was synced is never the next one again, and what was acknowledged does not come back.
func TestP5(t *testing.T) {
	r := rand.New(rand.NewSource(6))
	for range 50 {
		d, m := disk.New(), newModel(1, 100)
		s := open(t, "an empty disk", d, 1, 100)
		for range 20 {
			for range r.Intn(20) {
				step(t, r, s, m, 0)
			}
			syncs(t, "ahead of a crash", s)
			m.sync()
			was := stateOf(s)
			for range r.Intn(10) {
				step(t, r, s, m, 0)
			}
			s = restart(t, r, m, d)
			is := stateOf(s)
			if is.life != was.life+1 || is.next < was.next || is.base.Next < was.base.Next || is.base.Acked < was.base.Acked || is.evicted < was.evicted {
				t.Fatalf("P5: behind a crash there is %+v, where %+v was synced", is, was)
			}
		}
	}
}

// TestJournal: the file is a journal, to which the store's records can be added by others.
func TestJournal(t *testing.T) {
	d := disk.New()
	open(t, "an empty disk", d, 1, 64)
	j, contents, e := journal.Open(d, crc.New(), "s.0")
	if e != api.OK || len(contents) != 1 {
		t.Fatalf("P9.1: the file has %x, %d", contents, e)
	}
	wantError(t, "P7.2: Append", j.Append(putRecord(firing(1, 1, "a"))), api.OK)
	s := open(t, "a journal", d, 1, 64)
	wantFires(t, "an event that was appended", s, 1)
	if s.Next() != 2 || s.Life() != 2 {
		t.Errorf("P9.3: Next %d, Life %d", s.Next(), s.Life())
	}
}
