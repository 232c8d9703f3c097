package store

import (
	"fmt"
	"math/rand"
	"slices"
	"testing"

	"watchfire/api"
	"watchfire/disk"
	"watchfire/item"
	"watchfire/spool"
)

// done is a Put or an Ack that was done: of an item, or of an index that is not 0.
type done struct {
	x   api.Item
	ack uint64
	end int // how long the file was behind it
}

// model is a plain list of what was done, and the file that this leaves, byte by byte.
type model struct {
	self      uint8
	quota     int
	life, gen uint64
	first     int
	file      []byte
	synced    int
	all       []done
	queue     *spool.Spool // made of all
}

func newModel(self uint8, quota int) *model {
	m := &model{self: self, quota: quota}
	m.redo()
	m.open()
	return m
}

// copied returns an independent model.
func (m *model) copied() *model {
	made := *m
	made.file, made.all, made.queue = slices.Clone(m.file), slices.Clone(m.all), m.queue.Copy()
	return &made
}

// redo makes the spool anew of all that was done.
func (m *model) redo() {
	m.queue, _ = spool.New(m.quota)
	for _, one := range m.all {
		if one.ack != 0 {
			m.queue.Ack(one.ack)
		} else {
			m.queue.Put(one.x)
		}
	}
}

func (m *model) append(content []byte) {
	m.file = append(m.file, laid(content)...)
}

func (m *model) put(x api.Item) (index, from uint64, e api.Errno) {
	index, from, e = m.queue.Put(x)
	if e == api.OK {
		m.append(putRecord(x))
		m.all = append(m.all, done{x: x, end: len(m.file)})
	}
	return index, from, e
}

func (m *model) ack(index uint64) api.Errno {
	e := m.queue.Ack(index)
	if e == api.OK {
		m.append(ackRecord(index))
		m.all = append(m.all, done{ack: index, end: len(m.file)})
	}
	return e
}

func (m *model) room() int { return m.first + 4*m.quota + 1024 }

func (m *model) sync() {
	if len(m.file) > m.room() {
		m.file = laid(snapshotRecord(m.life, m.queue.Base(), m.fires()...))
		m.gen++
		m.first = len(m.file)
	}
	m.synced = len(m.file)
	for i := range m.all {
		m.all[i].end = 0
	}
}

// crash leaves of what was done what stands whole in the file behind a tear.
func (m *model) crash(tear disk.Tear) {
	kept := min(len(m.file), m.synced+int(tear.Keep))
	if kept > m.synced && tear.Bit < 8 {
		kept--
	}
	end := m.synced
	for i, one := range m.all {
		if one.end > kept {
			m.all = m.all[:i]
			break
		}
		end = max(end, one.end)
	}
	m.file, m.synced = m.file[:end], end
	m.redo()
}

func (m *model) open() {
	m.life++
	m.append(lifeRecord(m.life))
	m.sync()
}

// fires returns, by the chapter's words, the events that left alerts firing.
func (m *model) fires() []api.Item {
	var l []api.Item
	for i, one := range m.all {
		v := one.x.Event
		if one.ack != 0 || one.x.IsGap || v.Origin != m.self || v.State != api.Firing {
			continue
		}
		last := !slices.ContainsFunc(m.all[i+1:], func(later done) bool {
			w := later.x.Event
			return later.ack == 0 && !later.x.IsGap && w.Origin == v.Origin && w.Rule == v.Rule && w.Own == v.Own && slices.Equal(w.Labels, v.Labels)
		})
		if last {
			l = append(l, one.x)
		}
	}
	return l
}

func (m *model) name() string { return fmt.Sprint("s.", m.gen) }

func (m *model) state() state {
	is := state{life: m.life, next: m.queue.High(m.self) + 1, quota: m.quota, base: m.queue.Base(), bytes: len(m.file), room: m.room(), gen: m.gen}
	is.evicted = is.base.Evicted
	for _, x := range m.fires() {
		is.fires = append(is.fires, x.Event)
	}
	return is
}

// agree holds a store and its disk against a model.
func (m *model) agree(t *testing.T, about string, s *Store, d *disk.Disk) {
	t.Helper()
	wantState(t, about, s, m.state())
	wantNames(t, about, d, m.name())
	wantFile(t, about, d, m.name(), m.file, len(m.file)-m.synced)
	if _, used, _, _, _ := s.Spool().Counts(); used > m.quota {
		t.Errorf("P7: %d bytes wait, of %d", used, m.quota)
	}
}

// crashed crashes copies of a disk and a model, opens again, and does so once more with nothing between: what is there is what was synced last, and some of the first calls behind it; and then the same, in another life.
func crashed(t *testing.T, m *model, d *disk.Disk, tears ...disk.Tear) {
	t.Helper()
	m, d = m.copied(), d.Copy()
	synced := 0
	for _, one := range m.all {
		if one.end == 0 {
			synced++
		}
	}
	d.Crash(tears...)
	m.crash(tears[len(tears)-1])
	if len(m.all) < synced {
		t.Fatalf("P5: of %d calls that were synced %d are left", synced, len(m.all))
	}
	for range 3 {
		m.open()
		s := open(t, "behind a crash", d, m.self, m.quota)
		m.agree(t, "P9.4: Open behind a crash", s, d)
		d.Crash(disk.Tear{Keep: 3, Bit: 1})
	}
	if t.Failed() {
		t.FailNow()
	}
}

// TestCrashEach crashes behind each call, with each number of loose bytes that stay, and each bit of the last one turned.
func TestCrashEach(t *testing.T) {
	type call struct {
		x     api.Item
		ack   uint64
		syncs bool
	}
	for _, calls := range [][]call{
		{{x: turn(1, api.Firing, "a")}, {x: event(2, 1, 0)}, {syncs: true}, {x: turn(2, api.Idle, "a")}, {x: gap(3, 1, 7)}, {ack: 1}, {x: turn(3, api.Firing, "b")}},
		{{x: own(1, 1, 20)}, {x: turn(2, api.Firing, "a")}, {ack: 2}, {syncs: true}, {syncs: true}, {x: gap(1, 3, 3)}, {x: gap(1, 2, 9)}, {syncs: true}, {ack: 4}},
		{{x: sized(2, 1, 1, 30)}, {x: sized(2, 2, 0, 30)}, {x: sized(1, 1, 2, 30)}, {syncs: true}, {x: sized(2, 3, 3, 40)}, {x: gap(4, 1, 1<<40)}, {x: own(1, 2, 30)}},
	} {
		d := disk.New()
		s := open(t, "an empty disk", d, 1, 64)
		m := newModel(1, 64)
		for _, c := range calls {
			switch {
			case c.syncs:
				syncs(t, "of some calls", s)
				m.sync()
			case c.ack != 0:
				wantError(t, "P9.2: Ack", s.Ack(c.ack), m.ack(c.ack))
			default:
				_, _, e := s.Put(c.x)
				_, _, want := m.put(c.x)
				wantError(t, "P9.2: Put", e, want)
			}
			m.agree(t, "P9.2: some calls", s, d)
			for keep := range uint16(len(m.file) - m.synced + 2) {
				for bit := range uint16(9) {
					crashed(t, m, d, disk.Tear{Keep: keep, Bit: bit})
				}
			}
		}
	}
}

// long returns a store whose file is longer than Room, in part loose, with its disk and its model.
func long(t *testing.T, gens int) (*Store, *disk.Disk, *model) {
	t.Helper()
	d := disk.New()
	s := open(t, "an empty disk", d, 1, 64)
	m := newModel(1, 64)
	put := func(x api.Item) {
		puts(t, s, x)
		m.put(x)
	}
	put(turn(1, api.Firing, "kept"))
	for gen := range gens + 1 {
		for len(m.file) <= m.room() {
			if len(m.file) == m.synced {
				put(turn(m.queue.High(1)+1, api.State(2*(gen%2)), "turns"))
			}
			if len(m.file) < m.room()-100 && len(m.file) > m.room()-140 {
				syncs(t, "near Room", s)
				m.sync()
			}
			put(sized(2, m.queue.High(2)+1, uint8(len(m.file)%8), 20+len(m.file)%20))
		}
		if gen < gens {
			syncs(t, "of a long file", s)
			m.sync()
		}
	}
	m.agree(t, "P9.2: a long file", s, d)
	return s, d, m
}

// TestCrashWithinSync crashes at each point of Sync at which it writes a file anew: while the new file is written, ahead of its new name, and ahead of the old file's end.
func TestCrashWithinSync(t *testing.T) {
	for gens := range 3 {
		s, d, m := long(t, gens)
		ahead, old := d.Copy(), m.name()
		syncs(t, "of a long file", s)
		synced := m.copied()
		synced.sync()
		synced.agree(t, "P9.2: Sync of a long file", s, d)
		content, next := synced.file, synced.name()
		for n := 0; n <= len(content); n++ {
			for _, tear := range []disk.Tear{{}, {Keep: 1, Bit: 7}, {Keep: uint16(n), Bit: 0}, {Keep: 65535, Bit: 8}} {
				within := ahead.Copy()
				within.Append("new", content[:n])
				// The file named new is torn ahead of the other one, which may lose what is loose.
				crashed(t, m, within, tear, disk.Tear{})
				crashed(t, m, within, tear, disk.Tear{Keep: uint16(n), Bit: uint16(n % 9)})
				crashed(t, m, within, tear, disk.Tear{Keep: 65535, Bit: 8})
			}
		}
		within := ahead.Copy()
		add(within, "new", content)
		for keep := range uint16(len(m.file) - m.synced + 1) {
			crashed(t, m, within, disk.Tear{}, disk.Tear{Keep: keep, Bit: keep % 9})
		}
		wantError(t, "Rename", within.Rename("new", next), api.OK)
		crashed(t, synced, within, disk.Tear{Keep: 9, Bit: 2}, disk.Tear{Keep: 30, Bit: 8})
		wantError(t, "Remove", within.Remove(old), api.OK)
		crashed(t, synced, within, disk.Tear{Keep: 9, Bit: 2})
		crashed(t, synced, d, disk.Tear{Keep: 9, Bit: 2})
	}
}

// some returns one of the values.
func some[T any](r *rand.Rand, of ...T) T {
	return of[r.Intn(len(of))]
}

// someNext returns an item that begins at a count: mostly an event, of few alerts, so that they turn.
func someNext(r *rand.Rand, origin uint8, count uint64) api.Item {
	v := api.Event{Origin: origin, Seq: count, Time: uint64(r.Intn(1000)), Rule: some(r, "a", "b"), State: some(r, api.Idle, api.Firing), Prio: uint8(r.Intn(8)), Value: int64(r.Intn(999) - 500)}
	if r.Intn(2) == 0 {
		v.Labels = []api.Pair{{Key: "a", Value: some(r, "1", "2")}}
	}
	switch r.Intn(10) {
	case 0:
		return item.Gap(origin, count, count+uint64(r.Intn(4)*r.Intn(100)))
	case 1:
		v.Rule, v.Own = "own.a", some(r, api.OwnEvict, api.OwnDown)
	}
	return item.Of(v)
}

// someItem returns an item that a store may take, or refuse for any error.
func someItem(r *rand.Rand, m *model) api.Item {
	origin := some(r, m.self, m.self, m.self, 2, 31)
	high := m.queue.High(origin)
	switch r.Intn(20) {
	case 0:
		return item.Gap(origin, max(high, 1), high+uint64(r.Intn(30)))
	case 1:
		return someNext(r, origin, high+2)
	case 2:
		return someNext(r, origin, max(high, 1))
	case 3:
		x := someNext(r, origin, high+1)
		x.Event.Rule = some(r, "own.", "A", "xxxxxxxxxxxxx", "")
		return x
	case 4:
		return sized(origin, high+1, 7, 60+r.Intn(60))
	}
	return someNext(r, origin, high+1)
}

// step makes a call on a store and on its model, and holds what is answered against it.
func step(t *testing.T, r *rand.Rand, s *Store, m *model, syncs int) {
	t.Helper()
	switch n := r.Intn(20 + syncs); {
	case n >= 20:
		wantError(t, "P9.2: Sync", s.Sync(), api.OK)
		m.sync()
	case n < 4:
		_, _, next, acked, _ := m.queue.Counts()
		index := some(r, 0, acked, acked+1, acked+1, acked+2, next-1, next, great)
		wantError(t, "P9.2: Ack", s.Ack(index), m.ack(index))
	default:
		x := someItem(r, m)
		index, from, e := s.Put(x)
		wantIndex, wantFrom, wantE := m.put(x)
		if index != wantIndex || from != wantFrom || e != wantE {
			t.Fatalf("P9.2: Put(%+v): %d, %d, %d, want %d, %d, %d", x, index, from, e, wantIndex, wantFrom, wantE)
		}
	}
}

// someTear returns one of few bytes, of none, or of all.
func someTear(r *rand.Rand) disk.Tear {
	return disk.Tear{Keep: some(r, 0, 65535, uint16(r.Intn(100)), uint16(r.Intn(600))), Bit: uint16(r.Intn(10))}
}

// restart crashes a disk and its model by some tear, and opens both.
func restart(t *testing.T, r *rand.Rand, m *model, d *disk.Disk) *Store {
	t.Helper()
	tear := someTear(r)
	d.Crash(tear)
	m.crash(tear)
	m.open()
	return open(t, "behind a crash", d, m.self, m.quota)
}

// TestAnyCalls makes any calls, with crashes among them, and holds a store against its model.
func TestAnyCalls(t *testing.T) {
	r := rand.New(rand.NewSource(1))
	gens, lives := uint64(0), uint64(0)
	for range 100 {
		self, quota := some(r, uint8(0), 1, 31), 64+r.Intn(150)
		d, m := disk.New(), newModel(self, quota)
		s := open(t, "an empty disk", d, self, quota)
		m.agree(t, "P9.1: Open of an empty disk", s, d)
		often := some(r, 0, 1, 4)
		for range 300 {
			step(t, r, s, m, often)
			m.agree(t, "P9.2: any calls", s, d)
			if r.Intn(20) == 0 {
				crashed(t, m, d, someTear(r))
			}
			if r.Intn(50) == 0 {
				s = restart(t, r, m, d)
				m.agree(t, "P9.4: Open behind a crash", s, d)
			}
			if t.Failed() {
				return
			}
		}
		gens, lives = gens+m.gen, lives+m.life
	}
	if gens < 100 || lives < 500 {
		t.Errorf("any calls make %d generations and %d lives only", gens, lives)
	}
}
