package store

import (
	"bytes"
	"encoding/hex"
	"fmt"
	"math"
	"slices"
	"strings"
	"testing"

	"watchfire/api"
	"watchfire/crc"
	"watchfire/disk"
	"watchfire/item"
	"watchfire/journal"
	"watchfire/lab"
	"watchfire/pack"
	"watchfire/spool"
)

// great is the greatest number.
const great = math.MaxUint64

// filled returns an event as an item of so many bytes, by a longer rule and by labels.
func filled(v api.Event, size int) api.Item {
	need := size - item.Size(item.Of(v))
	for key := 'a'; need > api.MaxName-len(v.Rule); key++ {
		// A label has 3 bytes beside its value.
		n := min(need, 3+api.MaxValue)
		v.Labels = append(v.Labels, api.Pair{Key: string(key), Value: strings.Repeat("v", n-3)})
		need -= n
	}
	v.Rule += strings.Repeat("x", need)
	return item.Of(v)
}

// sized returns an event of so many bytes, from 11 up (for counts below 128).
func sized(origin uint8, seq uint64, prio uint8, size int) api.Item {
	return filled(api.Event{Origin: origin, Seq: seq, Rule: "a", Prio: prio}, size)
}

// event returns one of 11 bytes.
func event(origin uint8, seq uint64, prio uint8) api.Item {
	return sized(origin, seq, prio, 11)
}

// own returns a node's own event, of so many bytes, from 15 up.
func own(origin uint8, seq uint64, size int) api.Item {
	return filled(api.Event{Origin: origin, Seq: seq, Rule: "own.a", Own: api.OwnEvict}, size)
}

// gap returns one of 4 bytes (for counts below 128).
func gap(origin uint8, from, to uint64) api.Item {
	return item.Gap(origin, from, to)
}

func wantError(t *testing.T, about string, got, want api.Errno) {
	t.Helper()
	if got != want {
		t.Errorf("%s: %d, want %d", about, got, want)
	}
}

// open opens a store that can be opened.
func open(t *testing.T, about string, d *disk.Disk, self uint8, quota int) *Store {
	t.Helper()
	s, e := Open(d, crc.New(), self, quota)
	if e != api.OK || s == nil {
		t.Fatalf("P9.1: %s: Open(%d, %d): %d", about, self, quota, e)
	}
	return s
}

// puts puts items that are taken.
func puts(t *testing.T, s *Store, items ...api.Item) {
	t.Helper()
	for _, x := range items {
		if _, _, e := s.Put(x); e != api.OK {
			t.Fatalf("P9.2: Put(%+v): %d", x, e)
		}
	}
}

// syncs syncs a store that can be synced.
func syncs(t *testing.T, about string, s *Store) {
	t.Helper()
	wantError(t, "P9.2: Sync "+about, s.Sync(), api.OK)
}

// The contents of records, as the chapter lays them.

func putRecord(x api.Item) []byte { return append([]byte{1}, item.Encode(x)...) }

func number(kind byte, n uint64) []byte {
	var w pack.Writer
	w.Byte(kind)
	w.Uint(n)
	return w.Bytes()
}

func ackRecord(index uint64) []byte { return number(2, index) }

func lifeRecord(life uint64) []byte { return number(3, life) }

func snapshotRecord(life uint64, b spool.Base, fires ...api.Item) []byte {
	var w pack.Writer
	w.Byte(4)
	for _, n := range append([]uint64{life, b.Next, b.Acked, b.Evicted}, b.Highs[:]...) {
		w.Uint(n)
	}
	w.Uint(uint64(len(b.List)))
	for _, entry := range b.List {
		w.Uint(entry.Index)
		item.Put(&w, entry.Item)
	}
	w.Uint(uint64(len(fires)))
	for _, x := range fires {
		item.Put(&w, x)
	}
	return w.Bytes()
}

// laid returns records as they lie in a file.
func laid(contents ...[]byte) []byte {
	var all []byte
	for _, b := range contents {
		record, e := journal.Lay(crc.New(), b)
		if e != api.OK {
			panic("a record that is too long")
		}
		all = append(all, record...)
	}
	return all
}

// onDisk returns a disk on which a file has these bytes, which stay.
func onDisk(name string, b []byte) *disk.Disk {
	d := disk.New()
	add(d, name, b)
	return d
}

// add puts a file on a disk.
func add(d *disk.Disk, name string, b []byte) {
	if e := d.Append(name, b); e != api.OK {
		panic(fmt.Sprint("no file ", name, ": ", e))
	}
	d.Sync(name)
}

// crowd adds other files up to so many in all.
func crowd(d *disk.Disk, all int) {
	for i := 0; len(d.Names()) < all; i++ {
		add(d, fmt.Sprint("other", i), []byte{byte(i)})
	}
}

// wantFile holds a file against the bytes that it should have, and how many of them should be loose.
func wantFile(t *testing.T, about string, d *disk.Disk, name string, want []byte, loose int) {
	t.Helper()
	got, e := d.Read(name)
	if e != api.OK || !bytes.Equal(got, want) || d.Loose(name) != loose {
		t.Errorf("%s: %s has %x, %d of them loose (%d); want %x, %d", about, name, got, d.Loose(name), e, want, loose)
	}
}

func wantNames(t *testing.T, about string, d *disk.Disk, want ...string) {
	t.Helper()
	slices.Sort(want)
	if got := d.Names(); !slices.Equal(got, want) {
		t.Errorf("%s: the files are %q, want %q", about, got, want)
	}
}

// image tells all that is on a disk, and what it has counted.
func image(d *disk.Disk) string {
	var b strings.Builder
	for _, name := range d.Names() {
		all, _ := d.Read(name)
		fmt.Fprintf(&b, "%s: %x, %d loose\n", name, all, d.Loose(name))
	}
	writes, syncs := d.Counts()
	fmt.Fprintf(&b, "%d, %d", writes, syncs)
	return b.String()
}

// state is everything that a store answers.
type state struct {
	life, next, evicted uint64
	quota               int
	base                spool.Base
	fires               []api.Event
	bytes, room         int
	gen                 uint64
}

func stateOf(s *Store) state {
	is := state{life: s.Life(), next: s.Next(), evicted: s.Evicted(), quota: s.Spool().Quota(), base: s.Spool().Base(), fires: s.Fires(), room: s.Room()}
	is.bytes, is.gen = s.Sizes()
	return is
}

func sameEntries(a, b []spool.Entry) bool {
	return slices.EqualFunc(a, b, func(a, b spool.Entry) bool { return a.Index == b.Index && item.Same(a.Item, b.Item) })
}

func sameEvents(a, b []api.Event) bool {
	return slices.EqualFunc(a, b, func(a, b api.Event) bool { return item.Same(api.Item{Event: a}, api.Item{Event: b}) })
}

// sameKept reports whether two states are the same, but for the life and the file.
func sameKept(a, b state) bool {
	return a.next == b.next && a.evicted == b.evicted && a.quota == b.quota && sameEvents(a.fires, b.fires) &&
		a.base.Next == b.base.Next && a.base.Acked == b.base.Acked && a.base.Evicted == b.base.Evicted && a.base.Highs == b.base.Highs && sameEntries(a.base.List, b.base.List)
}

func sameState(a, b state) bool {
	return sameKept(a, b) && a.life == b.life && a.bytes == b.bytes && a.room == b.room && a.gen == b.gen
}

func wantState(t *testing.T, about string, s *Store, want state) {
	t.Helper()
	if got := stateOf(s); !sameState(got, want) {
		t.Errorf("%s:\n%+v, want\n%+v", about, got, want)
	}
}

// wantKept holds a store against a state but for the life and the file.
func wantKept(t *testing.T, about string, s *Store, want state) {
	t.Helper()
	if got := stateOf(s); !sameKept(got, want) {
		t.Errorf("%s:\n%+v, want\n%+v", about, got, want)
	}
}

// wantUnchanged makes a call that should be refused, and holds the store and its disk against what they were.
func wantUnchanged(t *testing.T, about string, s *Store, d *disk.Disk, want api.Errno, call func() api.Errno) {
	t.Helper()
	was, on := stateOf(s), image(d)
	wantError(t, about, call(), want)
	wantState(t, "R4: "+about, s, was)
	if image(d) != on {
		t.Errorf("R4: %s: the disk has\n%s, want\n%s", about, image(d), on)
	}
}

// wantRefused opens a disk that should be refused, and holds it against what it was.
func wantRefused(t *testing.T, about string, d *disk.Disk, self uint8, quota int, want api.Errno) {
	t.Helper()
	on := image(d)
	s, e := Open(d, crc.New(), self, quota)
	if s != nil || e != want {
		t.Errorf("P9.1: Open of %s: %v, %d, want %d", about, s != nil, e, want)
	}
	if image(d) != on {
		t.Errorf("R4: Open of %s: the disk has\n%s, want\n%s", about, image(d), on)
	}
}

// TestExample is the chapter's.
func TestExample(t *testing.T) {
	d := disk.New()
	s := open(t, "an empty disk", d, 3, 64)
	puts(t, s, event(3, 1, 0))
	syncs(t, "behind Put", s)
	d.Crash()
	s = open(t, "behind a crash", d, 3, 64)
	l := s.Spool().List(0, 9)
	if !sameEntries(l, []spool.Entry{{Index: 1, Item: event(3, 1, 0)}}) || s.Life() != 2 {
		t.Errorf("P9.4: %+v waits in life %d", l, s.Life())
	}
}

// TestOpenEmpty opens empty disks by nodes and quotas at the limits.
func TestOpenEmpty(t *testing.T) {
	for _, self := range []uint8{0, 1, 31, 32, 33, 255} {
		for _, quota := range []int{math.MinInt, -1, 0, 63, 64, 65, 65535, 65536, 65537, math.MaxInt} {
			d := disk.New()
			switch {
			case self > 31:
				wantRefused(t, fmt.Sprint("node ", self, " with quota ", quota), d, self, quota, api.ErrNode)
				continue
			case quota < 64 || quota > 65536:
				wantRefused(t, fmt.Sprint("node ", self, " with quota ", quota), d, self, quota, api.ErrQuota)
				continue
			}
			s := open(t, "an empty disk", d, self, quota)
			wantState(t, "P9.1: Open of an empty disk", s, state{life: 1, next: 1, quota: quota, base: spool.Base{Next: 1}, bytes: 10, room: 4*quota + 1024})
			wantNames(t, "P9.1: Open of an empty disk", d, "s.0")
			wantFile(t, "P9.1: Open of an empty disk", d, "s.0", laid(lifeRecord(1)), 0)
		}
	}
}

// wantOpen opens, and holds the error against the one that should come first.
func wantOpen(t *testing.T, about string, d *disk.Disk, c *crc.Table, self uint8, quota int, want api.Errno) {
	t.Helper()
	on := image(d)
	if s, e := Open(d, c, self, quota); s != nil || e != want {
		t.Errorf("R2: Open of %s: %v, %d, want %d", about, s != nil, e, want)
	}
	if image(d) != on {
		t.Errorf("R4: Open of %s changes the disk", about)
	}
}

// TestOpenFirst: each error of Open comes ahead of those that the chapter names behind it. Those of the disk's files are next to each other in TestOpenLast.
func TestOpenFirst(t *testing.T) {
	bad, fine := onDisk("s.0", laid([]byte{9})), disk.New()
	for _, d := range []*disk.Disk{bad, fine} {
		for _, self := range []uint8{0, 31, 32} {
			for _, quota := range []int{63, 64, 65536, 65537} {
				wantOpen(t, "no table", d, nil, self, quota, api.ErrNil)
				wantOpen(t, "no disk", nil, crc.New(), self, quota, api.ErrNil)
				wantOpen(t, "neither", nil, nil, self, quota, api.ErrNil)
				if self > 31 {
					wantOpen(t, "no node", d, crc.New(), self, quota, api.ErrNode)
				} else if quota < 64 || quota > 65536 {
					wantOpen(t, "no quota", d, crc.New(), self, quota, api.ErrQuota)
				} else if d == bad {
					wantOpen(t, "a bad file", d, crc.New(), self, quota, api.ErrKind)
				}
			}
		}
	}
}

// TestRecords holds what each call leaves in the file against bytes that are written out.
func TestRecords(t *testing.T) {
	d := disk.New()
	s := open(t, "an empty disk", d, 3, 64)
	puts(t, s, item.Of(api.Event{Origin: 3, Seq: 1, Time: 300, Rule: "hot", Labels: []api.Pair{{Key: "room", Value: "x"}}, State: api.Firing, Prio: 7, Value: -3}))
	puts(t, s, item.Gap(4, 1, 200), item.Gap(4, 150, 210))
	wantError(t, "P9.2: Ack", s.Ack(1), api.OK)
	all, _ := d.Read("s.0")
	contents, end := journal.Scan(crc.New(), all)
	want := []string{
		"0301",
		"01" + "00" + "03" + "01" + "ac02" + "03686f74" + "01" + "04726f6f6d" + "0178" + "02" + "07" + "05" + "00",
		"01" + "01" + "04" + "01" + "c801",
		"01" + "01" + "04" + "9601" + "d201",
		"0201",
	}
	if len(contents) != len(want) || end != len(all) {
		t.Fatalf("P9.1: the records are %x", contents)
	}
	for i, b := range contents {
		if hex.EncodeToString(b) != want[i] {
			t.Errorf("P9.1: record %d is %x, want %s", i, b, want[i])
		}
	}
	if loose := d.Loose("s.0"); loose != len(all)-10 {
		t.Errorf("P9.2: %d bytes are loose ahead of Sync", loose)
	}
	syncs(t, "behind that", s)
	wantFile(t, "P9.2: Sync", d, "s.0", all, 0)
}

// TestSnapshot holds a snapshot that Sync writes against bytes that are written out.
func TestSnapshot(t *testing.T) {
	d := disk.New()
	s := open(t, "an empty disk", d, 3, 64)
	puts(t, s, item.Of(api.Event{Origin: 3, Seq: 1, Rule: "hot", State: api.Firing}), item.Gap(4, 1, 9), item.Gap(31, 1, 200), item.Gap(31, 201, 300))
	wantError(t, "P9.2: Ack", s.Ack(1), api.OK)
	add(d, "s.0", make([]byte, s.Room()))
	syncs(t, "of a long file", s)
	want, _ := hex.DecodeString("04" + "01" + "05" + "01" + "00" +
		"00000001" + "09" + strings.Repeat("00", 26) + "ac02" +
		"02" + "02" + "01040109" + "03" + "011f01ac02" +
		"01" + "00" + "03" + "01" + "00" + "03686f74" + "00" + "02" + "00" + "00" + "00")
	wantFile(t, "P9.1: a snapshot", d, "s.1", laid(want), 0)
	wantNames(t, "P9.2: Sync", d, "s.1")
	s = open(t, "a snapshot", d, 3, 64)
	wantFile(t, "P9.1: a snapshot, and a life", d, "s.1", laid(want, lifeRecord(2)), 0)
	wantState(t, "P9.1: a snapshot", s, state{life: 2, next: 2, quota: 64, gen: 1, bytes: 8 + len(want) + 10, room: 8 + len(want) + 4*64 + 1024,
		base:  spool.Base{Next: 5, Acked: 1, Highs: [api.MaxNodes]uint64{3: 1, 4: 9, 31: 300}, List: []spool.Entry{{Index: 2, Item: gap(4, 1, 9)}, {Index: 3, Item: gap(31, 1, 300)}}},
		fires: []api.Event{{Origin: 3, Seq: 1, Rule: "hot", State: api.Firing}}})
}

// TestPut: Put and Ack answer what the spool answers, and each that is done leaves a record.
func TestPut(t *testing.T) {
	d := disk.New()
	s := open(t, "an empty disk", d, 1, 64)
	beside, _ := spool.New(64)
	file := laid(lifeRecord(1))
	for _, x := range []api.Item{
		event(1, 1, 3), event(2, 1, 0), event(2, 2, 0), event(1, 2, 7), event(1, 3, 1), own(1, 4, 20), gap(5, 1, 9), gap(5, 3, 12), event(1, 5, 0), event(2, 3, 7), own(7, 1, 15), event(1, 6, 0),
	} {
		index, from, e := s.Put(x)
		wantIndex, wantFrom, wantE := beside.Put(x)
		if index != wantIndex || from != wantFrom || e != wantE {
			t.Errorf("P9.2: Put(%+v): %d, %d, %d, want %d, %d, %d", x, index, from, e, wantIndex, wantFrom, wantE)
		}
		if e == api.OK {
			file = append(file, laid(putRecord(x))...)
		}
		wantFile(t, "P9.2: Put", d, "s.0", file, len(file)-10)
		wantKept(t, "P9.2: Put", s, state{next: beside.High(1) + 1, evicted: beside.Base().Evicted, quota: 64, base: beside.Base()})
	}
	if s.Evicted() == 0 {
		t.Error("P9.3: nothing was evicted")
	}
	for _, index := range []uint64{0, 1, 1, 0, 3, 2, 9, great, 11, 11, 12} {
		e := s.Ack(index)
		wantError(t, "P9.2: Ack", e, beside.Ack(index))
		if e == api.OK {
			file = append(file, laid(ackRecord(index))...)
		}
		wantFile(t, "P9.2: Ack", d, "s.0", file, len(file)-10)
		wantKept(t, "P9.2: Ack", s, state{next: beside.High(1) + 1, evicted: beside.Base().Evicted, quota: 64, base: beside.Base()})
	}
	if bytes, gen := s.Sizes(); bytes != len(file) || gen != 0 {
		t.Errorf("P9.3: Sizes: %d, %d", bytes, gen)
	}
}

// refusals returns a store at each of whose limits something is refused, and its disk: an own event waits, which leaves 14 bytes.
func refusals(t *testing.T) (*Store, *disk.Disk) {
	t.Helper()
	d := disk.New()
	s := open(t, "an empty disk", d, 1, 64)
	puts(t, s, own(1, 1, 30), gap(2, 1, 9), own(3, 1, 16))
	wantError(t, "P9.2: Ack", s.Ack(1), api.OK)
	puts(t, s, own(1, 2, 30))
	return s, d
}

// TestPutErrors: the spool's errors leave no record, and no change.
func TestPutErrors(t *testing.T) {
	s, d := refusals(t)
	for about, c := range map[string]struct {
		x api.Item
		e api.Errno
	}{
		"a gap of no counts":     {gap(1, 4, 3), api.ErrRange},
		"a gap of node 32":       {gap(32, 1, 3), api.ErrRange},
		"count 0":                {event(1, 0, 0), api.ErrRange},
		"an event of node 32":    {event(32, 1, 0), api.ErrRange},
		"prio 8":                 {event(1, 3, 8), api.ErrRange},
		"no rule":                {api.Item{Event: api.Event{Origin: 1, Seq: 3}}, api.ErrName},
		"an unknown state":       {item.Of(api.Event{Origin: 1, Seq: 3, Rule: "a", State: api.Unknown}), api.ErrKind},
		"own without its rule":   {item.Of(api.Event{Origin: 1, Seq: 3, Rule: "a", Own: 1}), api.ErrWord},
		"a rule that is own":     {item.Of(api.Event{Origin: 1, Seq: 3, Rule: "own.a"}), api.ErrWord},
		"labels twice":           {item.Of(api.Event{Origin: 1, Seq: 3, Rule: "a", Labels: []api.Pair{{Key: "a", Value: "1"}, {Key: "a", Value: "2"}}}), api.ErrTwice},
		"nine labels":            {item.Of(api.Event{Origin: 1, Seq: 3, Rule: "a", Labels: make([]api.Pair, 9)}), api.ErrMany},
		"an old event":           {event(1, 2, 0), api.ErrOld},
		"an old gap":             {gap(2, 2, 9), api.ErrOld},
		"an event behind a jump": {event(1, 4, 0), api.ErrJump},
		"a gap behind a jump":    {gap(9, 2, 2), api.ErrJump},
		"no room":                {sized(1, 3, 0, 15), api.ErrFull},
	} {
		wantUnchanged(t, "P9.2: Put of "+about, s, d, c.e, func() api.Errno {
			index, from, e := s.Put(c.x)
			if index != 0 || from != 0 {
				t.Errorf("R3: Put of %s: %d, %d", about, index, from)
			}
			return e
		})
	}
	for index, e := range map[uint64]api.Errno{0: api.ErrOld, 1: api.ErrOld, 5: api.ErrRange, 6: api.ErrRange, 1 << 40: api.ErrRange, great: api.ErrRange} {
		wantUnchanged(t, fmt.Sprint("P9.2: Ack of ", index), s, d, e, func() api.Errno { return s.Ack(index) })
	}
	puts(t, s, sized(1, 3, 0, 14))
}

// TestLastIndex: behind index 2^40 - 1 there is none.
func TestLastIndex(t *testing.T) {
	last := spool.Base{Next: 1<<40 - 1, Acked: 5, Highs: [api.MaxNodes]uint64{1: 7}}
	d := onDisk("s.3", laid(snapshotRecord(4, last)))
	s := open(t, "an index near the last one", d, 1, 64)
	puts(t, s, event(1, 8, 0))
	wantUnchanged(t, "P9.2: Put behind the last index", s, d, api.ErrRange, func() api.Errno { _, _, e := s.Put(event(1, 9, 0)); return e })
	was := stateOf(s)
	wantKept(t, "P9.4: the last index", open(t, "the last index", d, 1, 64), was)
}

// TestDiskErrors: the journal's errors, which are the disk's, leave no record, and no change of the spool, of what fires, or of what is evicted.
func TestDiskErrors(t *testing.T) {
	makeCalls := func(s *Store, d *disk.Disk, want api.Errno) {
		t.Helper()
		next := s.Next()
		firing := item.Of(api.Event{Origin: 1, Seq: next, Rule: "b", State: api.Firing})
		idle := item.Of(api.Event{Origin: 1, Seq: next, Rule: "a"})
		for _, x := range []api.Item{firing, idle, gap(1, next, next), gap(9, 1, 1), sized(1, next, 0, 40)} {
			wantUnchanged(t, "P9.2: Put on a full disk", s, d, want, func() api.Errno {
				index, from, e := s.Put(x)
				if index != 0 || from != 0 {
					t.Errorf("R3: Put on a full disk: %d, %d", index, from)
				}
				return e
			})
		}
		wantUnchanged(t, "P9.2: Ack on a full disk", s, d, want, func() api.Errno { return s.Ack(1) })
		wantUnchanged(t, "R2: Put of an old event on a full disk", s, d, api.ErrOld, func() api.Errno { _, _, e := s.Put(event(1, 1, 0)); return e })
		wantUnchanged(t, "R2: Ack of no item on a full disk", s, d, api.ErrRange, func() api.Errno { return s.Ack(99) })
	}
	newStore := func() (*Store, *disk.Disk) {
		d := disk.New()
		s := open(t, "an empty disk", d, 1, 64)
		puts(t, s, item.Of(api.Event{Origin: 1, Seq: 1, Rule: "a", State: api.Firing}), event(2, 1, 0), event(3, 1, 0), event(4, 1, 0))
		return s, d
	}
	s, d := newStore()
	is, _ := s.Sizes()
	d.Append("s.0", make([]byte, api.MaxFile-is-10))
	// An Ack takes 10 bytes, and goes into the file at last.
	wantUnchanged(t, "P9.2: Put on a full disk", s, d, api.ErrFull, func() api.Errno { _, _, e := s.Put(gap(9, 1, 1)); return e })
	d.Append("s.0", []byte{0})
	makeCalls(s, d, api.ErrFull)
	s, d = newStore()
	d.Remove("s.0")
	crowd(d, api.MaxFiles)
	makeCalls(s, d, api.ErrMany)
	d.Remove("other7")
	puts(t, s, event(1, 2, 0))
}

// TestSpoolIsCopy: what is done to the spool that is answered is not seen in the store, nor the other way round.
func TestSpoolIsCopy(t *testing.T) {
	d := disk.New()
	s := open(t, "an empty disk", d, 1, 64)
	puts(t, s, event(1, 1, 0), event(2, 1, 0))
	was, one, other := stateOf(s), s.Spool(), s.Spool()
	one.Put(event(1, 2, 0))
	one.Put(own(1, 3, 40))
	one.Ack(2)
	wantState(t, "P9.3: a copy is changed", s, was)
	wantKept(t, "P9.3: a copy is changed", &Store{self: 1, queue: other}, was)
	puts(t, s, event(1, 2, 0))
	wantError(t, "P9.2: Ack", s.Ack(2), api.OK)
	wantKept(t, "P9.3: a copy goes on with the store", &Store{self: 1, queue: other}, was)
	labels := []api.Pair{{Key: "a", Value: "b"}}
	puts(t, s, item.Of(api.Event{Origin: 3, Seq: 1, Rule: "a", Labels: labels}))
	found, _ := s.Spool().Find(4)
	found.Item.Event.Labels[0].Value = "mine"
	if again, _ := s.Spool().Find(4); !lab.Same(again.Item.Event.Labels, labels) {
		t.Errorf("R6: labels of a copy's answer are the store's: %+v", again)
	}
}
