package store

import (
	"fmt"
	"slices"
	"testing"

	"watchfire/api"
	"watchfire/crc"
	"watchfire/disk"
	"watchfire/item"
	"watchfire/spool"
)

// firing returns an event of an alert that fires.
func firing(origin uint8, seq uint64, rule string, labels ...api.Pair) api.Item {
	return item.Of(api.Event{Origin: origin, Seq: seq, Rule: rule, Labels: labels, State: api.Firing})
}

// someBase returns contents of a spool in which three items wait.
func someBase() spool.Base {
	return spool.Base{Next: 9, Acked: 3, Evicted: 2, Highs: [api.MaxNodes]uint64{1: 7, 2: 9, 31: 1 << 40}, List: []spool.Entry{
		{Index: 4, Item: gap(1, 5, 6)}, {Index: 6, Item: event(2, 9, 0)}, {Index: 8, Item: event(1, 7, 0)},
	}}
}

// badRecord is a record that is refused, on an empty spool.
type badRecord struct {
	about   string
	content []byte
	e       api.Errno
}

func badRecords() []badRecord {
	x := event(1, 1, 0)
	good, tail := item.Encode(x), []byte{0}
	bad := func(change func(v *api.Event)) []byte {
		v := x.Event
		change(&v)
		return putRecord(api.Item{Event: v})
	}
	return []badRecord{
		{"nothing", nil, api.ErrKind},
		{"kind 0", []byte{0}, api.ErrKind},
		{"kind 0, and an item", append([]byte{0}, good...), api.ErrKind},
		{"kind 5", []byte{5}, api.ErrKind},
		{"kind 5, and a number", []byte{5, 1}, api.ErrKind},
		{"kind 255", []byte{255}, api.ErrKind},
		{"no item", []byte{1}, api.ErrShort},
		{"neither an event nor a gap", []byte{1, 2}, api.ErrForm},
		{"half an item", putRecord(x)[:6], api.ErrShort},
		{"an item, and a byte", append(putRecord(x), tail...), api.ErrRest},
		{"two items", append(putRecord(x), good...), api.ErrRest},
		{"an old item, and a byte", append(putRecord(gap(1, 4, 3)), tail...), api.ErrRange},
		{"a gap of no counts", putRecord(gap(1, 2, 1)), api.ErrRange},
		{"a gap of node 32", putRecord(gap(32, 1, 1)), api.ErrRange},
		{"a count that is too great", bad(func(v *api.Event) { v.Seq = 1<<40 + 1 }), api.ErrRange},
		{"a rule that is too long", bad(func(v *api.Event) { v.Rule = "xxxxxxxxxxxxx" }), api.ErrLong},
		{"a bad rule", bad(func(v *api.Event) { v.Rule = "A" }), api.ErrName},
		{"a bad state", bad(func(v *api.Event) { v.State = api.Pending }), api.ErrKind},
		{"own without its rule", bad(func(v *api.Event) { v.Own = 2 }), api.ErrWord},
		{"labels in no order", bad(func(v *api.Event) { v.Labels = []api.Pair{{Key: "b", Value: "b"}, {Key: "a", Value: "a"}} }), api.ErrOrder},
		{"nine labels", bad(func(v *api.Event) { v.Labels = make([]api.Pair, 9) }), api.ErrRange},
		{"count 2 at first", putRecord(event(1, 2, 0)), api.ErrJump},
		{"an item above the quota", putRecord(sized(1, 1, 0, 65)), api.ErrFull},
		{"no index", []byte{2}, api.ErrShort},
		{"half an index", []byte{2, 0x80}, api.ErrShort},
		{"an index in two bytes for one", []byte{2, 0x81, 0}, api.ErrForm},
		{"an index that is too great", []byte{2, 0xff, 0xff, 0xff, 0xff, 0xff, 0xff, 0xff, 0xff, 0xff, 2}, api.ErrRange},
		{"index 0", ackRecord(0), api.ErrOld},
		{"index 1 of none", ackRecord(1), api.ErrRange},
		{"index 0, and a byte", append(ackRecord(0), tail...), api.ErrRest},
		{"no life", []byte{3}, api.ErrShort},
		{"half a life", []byte{3, 0xff}, api.ErrShort},
		{"a life in two bytes for one", []byte{3, 0x81, 0}, api.ErrForm},
		{"a life that is too great", []byte{3, 0xff, 0xff, 0xff, 0xff, 0xff, 0xff, 0xff, 0xff, 0xff, 2}, api.ErrRange},
		{"a life, and a byte", append(lifeRecord(1), tail...), api.ErrRest},
	}
}

// TestBadRecords: a file with a record that is refused is refused, wherever it stands, in a file of any generation, and nothing on the disk changes: no file goes, and none is cut or synced.
func TestBadRecords(t *testing.T) {
	for _, bad := range badRecords() {
		for _, ahead := range [][][]byte{nil, {lifeRecord(1)}, {lifeRecord(1), putRecord(gap(30, 1, 1)), lifeRecord(2)}} {
			if len(ahead) == 3 && (bad.about == "index 1 of none" || bad.about == "index 0") {
				continue
			}
			for _, name := range []string{"s.0", "s.7"} {
				d := onDisk(name, laid(append(slices.Clone(ahead), bad.content, lifeRecord(9))...))
				d.Append(name, []byte("loose"))
				d.Append("new", []byte("new"))
				d.Append("other", []byte("other"))
				if name != "s.0" {
					add(d, "s.0", laid(lifeRecord(5)))
				}
				wantRefused(t, "a file with "+bad.about, d, 1, 64, bad.e)
			}
		}
	}
}

// TestFirstBadRecord: the error is that of the first record that has one.
func TestFirstBadRecord(t *testing.T) {
	first := putRecord(event(1, 1, 0))
	for _, c := range []struct {
		about string
		e     api.Errno
		all   [][]byte
	}{
		{"an item twice, and kind 9", api.ErrOld, [][]byte{first, first, {9}}},
		{"kind 9, and an item twice", api.ErrKind, [][]byte{first, {9}, first}},
		{"an index twice", api.ErrOld, [][]byte{first, ackRecord(1), ackRecord(1), putRecord(event(1, 5, 0))}},
		{"a jump, and an index twice", api.ErrJump, [][]byte{first, putRecord(event(1, 5, 0)), ackRecord(1), ackRecord(1)}},
		{"an index that was not assigned", api.ErrRange, [][]byte{first, ackRecord(2), {}}},
		{"no room", api.ErrFull, [][]byte{putRecord(own(1, 1, 60)), putRecord(own(1, 2, 60)), {}}},
	} {
		wantRefused(t, "a file with "+c.about, onDisk("s.0", laid(c.all...)), 1, 64, c.e)
	}
}

// TestReplay opens files of records that are not as this layer leaves them, but which tell what was done all the same.
func TestReplay(t *testing.T) {
	empty := spool.Base{Next: 1}
	snapshot := snapshotRecord(40, someBase(), firing(1, 3, "b"))
	for _, c := range []struct {
		about   string
		name    string
		records [][]byte
		want    state
		room    int
	}{
		{"no records", "s.0", nil, state{life: 1, next: 1, base: empty}, 1280},
		{"no records in generation 5", "s.5", nil, state{life: 1, next: 1, base: empty, gen: 5}, 1280},
		{"life 7", "s.0", [][]byte{lifeRecord(7)}, state{life: 8, next: 1, base: empty}, 1280},
		{"life 7, and life 3", "s.0", [][]byte{lifeRecord(7), lifeRecord(3)}, state{life: 4, next: 1, base: empty}, 1280},
		{"life 0", "s.0", [][]byte{lifeRecord(0)}, state{life: 1, next: 1, base: empty}, 1280},
		{"an item without a life", "s.0", [][]byte{putRecord(event(1, 1, 0))},
			state{life: 1, next: 2, base: spool.Base{Next: 2, Highs: [api.MaxNodes]uint64{1: 1}, List: []spool.Entry{{Index: 1, Item: event(1, 1, 0)}}}}, 1280},
		{"a gap of which a part is old", "s.2", [][]byte{putRecord(gap(2, 1, 5)), ackRecord(1), putRecord(gap(2, 3, 9))},
			state{life: 1, next: 1, gen: 2, base: spool.Base{Next: 3, Acked: 1, Highs: [api.MaxNodes]uint64{2: 9}, List: []spool.Entry{{Index: 2, Item: gap(2, 6, 9)}}}}, 1280},
		{"a snapshot", "s.1", [][]byte{snapshot}, state{life: 41, next: 8, evicted: 2, gen: 1, base: someBase(), fires: []api.Event{firing(1, 3, "b").Event}}, 1288 + len(snapshot)},
		{"a snapshot in generation 0", "s.0", [][]byte{snapshot}, state{life: 41, next: 8, evicted: 2, base: someBase(), fires: []api.Event{firing(1, 3, "b").Event}}, 1280},
		{"a snapshot, and a life", "s.1", [][]byte{snapshot, lifeRecord(50)}, state{life: 51, next: 8, evicted: 2, gen: 1, base: someBase(), fires: []api.Event{firing(1, 3, "b").Event}}, 1288 + len(snapshot)},
		{"a snapshot of nothing", "s.1", [][]byte{snapshotRecord(0, empty)}, state{life: 1, next: 1, gen: 1, base: empty}, 1288 + len(snapshotRecord(0, empty))},
		{"a snapshot of other things than those ahead", "s.1", [][]byte{lifeRecord(99), putRecord(firing(1, 1, "a")), snapshot},
			state{life: 41, next: 8, evicted: 2, gen: 1, base: someBase(), fires: []api.Event{firing(1, 3, "b").Event}}, 1288 + len(snapshot)},
	} {
		d := onDisk(c.name, laid(c.records...))
		s := open(t, c.about, d, 1, 64)
		file := laid(append(slices.Clone(c.records), lifeRecord(c.want.life))...)
		c.want.quota, c.want.room, c.want.bytes = 64, c.room, len(file)
		wantState(t, "P9.1: Open of "+c.about, s, c.want)
		wantFile(t, "P9.1: Open of "+c.about, d, c.name, file, 0)
	}
}

// TestTorn: what follows the records in a file goes, also if whole records stand behind it, and what was loose stays.
func TestTorn(t *testing.T) {
	kept := laid(lifeRecord(1), putRecord(event(1, 1, 0)))
	for at := range laid(putRecord(event(1, 2, 0))) {
		torn := laid(putRecord(event(1, 2, 0)))
		turned := slices.Clone(torn)
		turned[at] ^= 4
		for _, tail := range [][]byte{torn[:at], turned, append(slices.Clone(turned), laid(lifeRecord(9))...)} {
			d := disk.New()
			d.Append("s.0", slices.Concat(kept, tail))
			s := open(t, "a torn file", d, 1, 64)
			file := append(slices.Clone(kept), laid(lifeRecord(2))...)
			wantFile(t, "P9.1: Open of a torn file", d, "s.0", file, 0)
			wantState(t, "P9.1: Open of a torn file", s, state{life: 2, next: 2, quota: 64, bytes: len(file), room: 1280,
				base: spool.Base{Next: 2, Highs: [api.MaxNodes]uint64{1: 1}, List: []spool.Entry{{Index: 1, Item: event(1, 1, 0)}}}})
		}
	}
}

// wantSnapshot opens a file with a snapshot that was turned, and holds the error against the one that there should be.
func wantSnapshot(t *testing.T, about string, content []byte, quota int, want api.Errno) {
	t.Helper()
	for _, name := range []string{"s.0", "s.1"} {
		d := onDisk(name, laid(content))
		if want != api.OK {
			wantRefused(t, "a snapshot with "+about, d, 1, quota, want)
		} else {
			open(t, "a snapshot with "+about, d, 1, quota)
		}
	}
}

// TestSnapshotTurned turns each part of a snapshot.
func TestSnapshotTurned(t *testing.T) {
	fires := []api.Item{firing(1, 3, "b"), firing(1, 4, "c", api.Pair{Key: "a", Value: "b"})}
	whole := snapshotRecord(4, someBase(), fires...)
	wantSnapshot(t, "nothing turned", whole, 64, api.OK)
	for n := 1; n < len(whole); n++ {
		wantSnapshot(t, fmt.Sprint(n, " bytes"), whole[:n], 64, api.ErrShort)
	}
	wantSnapshot(t, "a byte behind it", append(slices.Clone(whole), 0), 64, api.ErrRest)
	for _, c := range []struct {
		about string
		e     api.Errno
		turn  func(b *spool.Base)
	}{
		{"Next 0", api.ErrRange, func(b *spool.Base) { b.Next = 0 }},
		{"Next 2^40", api.OK, func(b *spool.Base) { b.Next = 1 << 40 }},
		{"Next above 2^40", api.ErrRange, func(b *spool.Base) { b.Next = 1<<40 + 1 }},
		{"Next at the last index", api.ErrOrder, func(b *spool.Base) { b.Next = 8 }},
		{"Next at Acked", api.ErrRange, func(b *spool.Base) { b.Next = 3 }},
		{"Acked at Next", api.ErrRange, func(b *spool.Base) { b.Acked = 9 }},
		{"Acked above all", api.ErrRange, func(b *spool.Base) { b.Acked = great }},
		{"Acked at the first index", api.ErrOrder, func(b *spool.Base) { b.Acked = 4 }},
		{"any Evicted", api.OK, func(b *spool.Base) { b.Evicted = great }},
		{"a High below the last item", api.ErrOrder, func(b *spool.Base) { b.Highs[1] = 6 }},
		{"a High above the last item", api.ErrOrder, func(b *spool.Base) { b.Highs[2] = 10 }},
		{"a High of nothing that waits", api.OK, func(b *spool.Base) { b.Highs[0] = 3 }},
		{"a High above 2^40", api.ErrOrder, func(b *spool.Base) { b.Highs[31]++ }},
		{"an index twice", api.ErrOrder, func(b *spool.Base) { b.List[1].Index = 4 }},
		{"index 0", api.ErrOrder, func(b *spool.Base) { b.List[0].Index = 0 }},
		{"counts with a hole", api.ErrOrder, func(b *spool.Base) { b.List[0].Item = gap(1, 4, 5) }},
		{"a gap that is none", api.ErrRange, func(b *spool.Base) { b.List[0].Item = gap(1, 6, 5) }},
		{"an event that is none", api.ErrName, func(b *spool.Base) { b.List[1].Item.Event.Rule = "A" }},
		{"an item above the quota", api.ErrQuota, func(b *spool.Base) { b.List[1].Item = sized(2, 9, 0, 64) }},
		{"a bad item, ahead of Next 0", api.ErrRange, func(b *spool.Base) { b.Next, b.List[0].Item = 0, gap(1, 6, 5) }},
		{"more entries than bytes", api.ErrRange, func(b *spool.Base) {
			b.Next, b.List = 1<<40, make([]spool.Entry, 65)
			for i := range b.List {
				b.List[i] = spool.Entry{Index: uint64(i + 4), Item: gap(1, 1, 1)}
			}
		}},
	} {
		b := someBase()
		c.turn(&b)
		wantSnapshot(t, c.about, snapshotRecord(4, b, fires...), 64, c.e)
	}
	wide := snapshotRecord(4, spool.Base{Next: 2, Highs: [api.MaxNodes]uint64{1: 1}, List: []spool.Entry{{Index: 1, Item: sized(1, 1, 0, 100)}}})
	wantSnapshot(t, "an item at the quota", wide, 100, api.OK)
	wantSnapshot(t, "an item above the quota", wide, 99, api.ErrQuota)
}

// TestSnapshotFires turns what a snapshot tells of the alerts that fire, and the numbers of its lists.
func TestSnapshotFires(t *testing.T) {
	for _, c := range []struct {
		about string
		e     api.Errno
		x     api.Item
	}{
		{"a gap that fires", api.ErrKind, gap(1, 1, 1)},
		{"an event that is idle", api.ErrKind, event(1, 1, 0)},
		{"an event that is none", api.ErrName, firing(1, 1, "A")},
		{"a gap that is none, and fires", api.ErrRange, gap(1, 2, 1)},
		{"an event of another node", api.OK, firing(2, 1, "a")},
		{"own", api.OK, item.Of(api.Event{Origin: 1, Seq: 1, Rule: "own.a", State: api.Firing, Own: 2})},
	} {
		for _, fires := range [][]api.Item{{c.x}, {firing(1, 9, "z"), c.x}, {c.x, firing(1, 9, "z")}} {
			wantSnapshot(t, c.about, snapshotRecord(4, someBase(), fires...), 64, c.e)
		}
		if c.e != api.OK {
			wantSnapshot(t, c.about+", and a byte", append(snapshotRecord(4, someBase(), c.x), 0), 64, c.e)
		}
	}
	ending := func(content []byte, cut int, more ...byte) []byte {
		return append(slices.Clone(content[:len(content)-cut]), more...)
	}
	// Of an empty spool, the last two bytes are the numbers of the two lists.
	empty := snapshotRecord(4, spool.Base{Next: 1})
	most := []byte{0xff, 0xff, 0xff, 0xff, 0xff, 0xff, 0xff, 0xff, 0xff, 1}
	wantSnapshot(t, "an entry that is missing", ending(empty, 2, 1), 64, api.ErrShort)
	wantSnapshot(t, "most entries", ending(empty, 2, most...), 64, api.ErrShort)
	wantSnapshot(t, "most entries, and nothing else", ending(empty, 2, append(most, 0)...), 64, api.ErrShort)
	wantSnapshot(t, "an event that is missing", ending(empty, 1, 1), 64, api.ErrShort)
	wantSnapshot(t, "most events", ending(empty, 1, most...), 64, api.ErrShort)
	wantSnapshot(t, "a number in two bytes for one", ending(empty, 1, 0x80, 0), 64, api.ErrForm)
	one := snapshotRecord(4, spool.Base{Next: 1}, firing(1, 1, "a"))
	one[len(empty)-1] = 0
	wantSnapshot(t, "an event more than it tells of", one, 64, api.ErrRest)
}

// TestOtherQuota: records are done again with the quota of this Open.
func TestOtherQuota(t *testing.T) {
	d := disk.New()
	s := open(t, "an empty disk", d, 1, 100)
	var items []api.Item
	for seq := uint64(1); seq <= 20; seq++ {
		items = append(items, event(1, seq, uint8(seq%3)))
	}
	puts(t, s, items...)
	syncs(t, "behind Put", s)
	for _, quota := range []int{64, 65536, 100, 70} {
		beside, _ := spool.New(quota)
		for _, x := range items {
			beside.Put(x)
		}
		s := open(t, "another quota", d, 1, quota)
		wantKept(t, "P9.1: Open with another quota", s, state{next: 21, evicted: beside.Base().Evicted, quota: quota, base: beside.Base()})
	}
	d = disk.New()
	s = open(t, "an empty disk", d, 1, 100)
	puts(t, s, own(1, 1, 90))
	wantRefused(t, "an own event above the quota", d, 1, 89, api.ErrFull)
	add(d, "s.0", make([]byte, s.Room()))
	syncs(t, "of a long file", s)
	wantRefused(t, "a snapshot above the quota", d, 1, 89, api.ErrQuota)
	open(t, "a snapshot at the quota", d, 1, 90)
}

// TestOtherTable: files of one table are files to another one.
func TestOtherTable(t *testing.T) {
	d := disk.New()
	for i, table := range []*crc.Table{crc.New(), {}, crc.New()} {
		s, e := Open(d, table, 1, 64)
		if e != api.OK || s.Life() != uint64(i+1) {
			t.Fatalf("P9.1: Open with another table: %d", e)
		}
		puts(t, s, event(1, s.Next(), 0))
	}
}
