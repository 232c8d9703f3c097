package sess

import (
	"fmt"
	"math/rand"
	"slices"
	"testing"

	"watchfire/api"
	"watchfire/frame"
	"watchfire/item"
	"watchfire/spool"
)

// origins is how many origins put items into the sending end's spool. The others than node 2 are nodes under it, of which there come gaps, too.
const origins = 3

// packet is a frame on its way, and when it arrives.
type packet struct {
	at uint64
	f  frame.Frame
}

// count is what there is of an origin's count: the event that was put, or that it was put as a gap; and whether it was evicted.
type count struct {
	x       *api.Item
	evicted bool
}

// source is the sending end of a link, with what is on its disk and would be there again in its next life.
type source struct {
	spool, synced *spool.Spool
	put, stays    [origins][]count
	life, epoch   uint64
	out           *Out
}

// target is the receiving end, with what is on its disk: what was taken over of each origin.
type target struct {
	taken, stays [origins][]*api.Item
	life         uint64
	in           *In
	heard        bool
}

// link is both, and what is under way between them.
type link struct {
	t      *testing.T
	r      *rand.Rand
	times  Times
	quota  int
	now    uint64
	s      source
	d      target
	wire   []packet
	bad    bool // whether anything may go wrong
	befell map[string]int
}

func newLink(t *testing.T, r *rand.Rand, befell map[string]int) *link {
	k := &link{t: t, r: r, bad: true, befell: befell}
	k.times = Times{Window: some(r, 1, 2, 3, 4, 8, 64), First: uint64(1 + r.Intn(3))}
	k.times.Most = k.times.First + uint64(r.Intn(6))
	k.quota = some(r, 100, 150, 400, 3000)
	s, e := spool.New(k.quota)
	k.want(e == api.OK, "P8.1", e)
	k.s.spool, k.s.synced = s, s.Copy()
	k.startSource()
	k.startTarget()
	return k
}

// want tells of what is not as it should be, and ends the test.
func (k *link) want(ok bool, about string, told ...any) {
	k.t.Helper()
	if !ok {
		k.t.Fatalf("%s: at %d: %+v", about, k.now, told)
	}
}

// often reports true once in n times, while anything may go wrong.
func (k *link) often(n int) bool {
	return k.bad && k.r.Intn(n) == 0
}

// startSource begins the sending end's next life, with what is on its disk.
func (k *link) startSource() {
	k.s.life++
	k.s.spool, k.s.put = k.s.synced.Copy(), copies(k.s.stays)
	o, e := NewOut(2, 1, k.s.life, k.times)
	k.want(e == api.OK, "P12.1: NewOut", e)
	k.s.out = o
	k.rises()
}

// startTarget begins the receiving end's next life, with what is on its disk.
func (k *link) startTarget() {
	k.d.life++
	k.d.taken, k.d.heard = copies(k.d.stays), false
	i, e := NewIn(1, 2, k.d.life, k.times.Window)
	k.want(e == api.OK, "P12.3: NewIn", e)
	k.d.in = i
}

// rises holds against a session that began that its epoch is above all that were.
func (k *link) rises() {
	k.want(k.s.out.Epoch() > k.s.epoch, "P12.1: epochs", k.s.epoch, k.s.out.Epoch())
	k.s.epoch = k.s.out.Epoch()
}

// someEvent returns the next event of an origin.
func (k *link) someEvent(origin int) api.Item {
	v := api.Event{Origin: uint8(2 + origin), Seq: uint64(len(k.s.put[origin]) + 1), Time: k.now, Rule: "load", State: some(k.r, api.Idle, api.Firing), Prio: uint8(k.r.Intn(4)), Value: k.r.Int63()}
	if k.r.Intn(20) == 0 {
		v.Rule, v.Own = "own.evicted", api.OwnEvict
	}
	for i := range k.r.Intn(3) {
		v.Labels = append(v.Labels, api.Pair{Key: string(rune('a' + i)), Value: some(k.r, "x", "web-1", "north")})
	}
	return item.Of(v)
}

// put puts an item into the spool, if there is room, and tells the session what that changed.
func (k *link) put(origin int) {
	x, counts := k.someEvent(origin), 1
	if origin > 0 && k.r.Intn(4) == 0 {
		counts = 1 + k.r.Intn(4)
		seq := x.Event.Seq
		x = item.Gap(x.Event.Origin, seq, seq+uint64(counts)-1)
	}
	_, from, e := k.s.spool.Put(x)
	if e == api.ErrFull {
		k.befell["full"]++
		return
	}
	k.want(e == api.OK, "P8.2: Put", e)
	for range counts {
		k.s.put[origin] = append(k.s.put[origin], count{&x, x.IsGap})
	}
	for _, entry := range k.s.spool.List(0, k.quota) {
		k.evicted(entry.Item)
	}
	last := k.s.out.Sender().Last()
	changed := k.s.out.Changed(from)
	k.want(changed == (from != 0 && last >= from), "P12.1: Changed", from, last, changed)
	if changed {
		k.befell["changed"]++
		k.rises()
		k.want(k.s.out.Sender().Last() == 0, "P12.1: in flight behind Changed")
	}
}

// evicted takes down which counts a gap of the spool covers.
func (k *link) evicted(x api.Item) {
	if !x.IsGap {
		return
	}
	origin, from, to := item.Span(x)
	all := k.s.put[origin-2]
	for seq := from; seq <= to; seq++ {
		all[seq-1].evicted = true
	}
}

// copies returns lists that share nothing with these.
func copies[T any](all [origins][]T) [origins][]T {
	for i, l := range all {
		all[i] = slices.Clone(l)
	}
	return all
}

// sync writes what the sending end has to its disk.
func (k *link) sync() {
	k.s.synced, k.s.stays = k.s.spool.Copy(), copies(k.s.put)
}

// sends is the sending end's part of a tick. Nothing is sent that a crash could take back.
func (k *link) sends() {
	for k.often(2) {
		k.put(k.r.Intn(origins))
	}
	if k.often(40) {
		k.befell["the source's crash ahead of its sync"]++
		k.startSource()
	}
	k.sync()
	k.s.out.Fill(k.s.spool, k.now)
	k.want(len(k.s.out.Sender().List()) <= k.times.Window, "P7: what is in flight", k.s.out.Sender().List())
	for _, f := range k.s.out.Frames(k.s.spool, k.now) {
		at, ok := k.s.spool.Find(k.indexOf(f.Seq))
		k.want(ok && at.Index == k.indexOf(f.Seq) && show(f) == show(data(k.s.epoch, f.Seq, at.Item)), "P12.1: Frames", f, at)
		k.carry(f)
	}
	if k.often(60) {
		k.befell["the source's crash"]++
		k.startSource()
	}
}

// indexOf returns the index of a number that is in flight.
func (k *link) indexOf(seq uint64) uint64 {
	for _, f := range k.s.out.Sender().List() {
		if f.Seq == seq {
			return f.Index
		}
	}
	return 0
}

// carry lets a frame get lost, or brings it late, or twice.
func (k *link) carry(f frame.Frame) {
	if k.often(5) {
		k.befell["lost"]++
		return
	}
	for {
		late := uint64(0)
		if k.often(2) {
			late = uint64(k.r.Intn(some(k.r, 3, 3, 30)))
		}
		k.wire = append(k.wire, packet{k.now + late, f})
		if !k.often(5) {
			return
		}
		k.befell["doubled"]++
	}
}

// arrives returns a frame that arrives now, and whether there is one.
func (k *link) arrives() (frame.Frame, bool) {
	for i, p := range k.wire {
		if p.at <= k.now {
			k.wire = append(k.wire[:i], k.wire[i+1:]...)
			return p.f, true
		}
	}
	return frame.Frame{}, false
}

// takes is the receiving end's part, for a frame that arrived: as a hub does it, it takes over what comes in order, as long as there is room, and writes it to its disk ahead of answering.
func (k *link) takes(f frame.Frame) {
	was := k.d.in.Epoch()
	e := k.d.in.Data(f)
	k.befell[fmt.Sprint("data ", int(e))]++
	k.want(e == api.OK || e == api.ErrOld || e == api.ErrWindow, "P12.3: Data", e)
	k.want((e == api.ErrOld) || k.d.in.Epoch() == f.Epoch, "P12.3: Epoch", f.Epoch, k.d.in.Epoch())
	k.want(k.d.in.Epoch() == max(was, f.Epoch), "P12.3: Epoch", was, f.Epoch, k.d.in.Epoch())
	_, held, _ := k.d.in.Receiver().Counts()
	k.want(held <= k.times.Window, "P7: what is held", held)
	k.d.heard = true
	for {
		x, ok := k.d.in.Receiver().Peek()
		if !ok {
			break
		}
		if k.often(10) {
			k.befell["no room"]++
			break
		}
		k.take(x)
		k.want(k.d.in.Receiver().Next() == api.OK, "P11.1: Next")
	}
	if k.often(40) {
		k.befell["the target's crash ahead of its sync"]++
		k.startTarget()
	}
	k.d.stays = copies(k.d.taken)
}

// take takes over the part of an item that wasn't taken over yet: its counts follow those that were (P3).
func (k *link) take(x api.Item) {
	origin, from, to := item.Span(x)
	all := k.d.taken[origin-2]
	high := uint64(len(all))
	k.want(from <= high+1, "P3: counts are left out", x, high)
	if to <= high {
		k.befell["old"]++
		return
	}
	for range to - high {
		all = append(all, &x)
	}
	k.d.taken[origin-2] = all
	k.holds(int(origin-2), int(high))
}

// holds holds what was taken over of an origin, behind some of its counts, against what was put: each event is the one that was put, and each gap covers only what was evicted (P4).
func (k *link) holds(origin, behind int) {
	all, put := k.d.taken[origin], k.s.put[origin]
	k.want(len(all) <= len(put), "P3: what was never put", origin, len(all))
	for i := behind; i < len(all); i++ {
		x := all[i]
		if x.IsGap {
			k.want(put[i].evicted, "P4: a gap of what was not evicted", *x)
			k.befell["gaps"]++
			continue
		}
		k.want(show(*x) == show(*put[i].x), "P4: not as it was put", *x, *put[i].x)
		k.befell["events"]++
	}
}

// hears is the sending end's part, for an acknowledgement that arrived.
func (k *link) hears(f frame.Frame) {
	epoch := k.s.out.Epoch()
	index, e := k.s.out.Ack(f)
	k.befell[fmt.Sprint("ack ", int(e))]++
	switch e {
	case api.OK:
		k.want(f.Epoch == epoch, "P12.2: another epoch's", f.Epoch, epoch)
	case api.ErrEpoch:
		k.rises()
	default:
		k.want(e == api.ErrOld, "P12.2: Ack", e)
	}
	if index != 0 {
		k.want(k.s.spool.Ack(index) == api.OK, "P8.3: Ack", index)
	}
}

// tick lets a tick pass. It reports whether a frame was under way in it.
func (k *link) tick() bool {
	k.now++
	k.sends()
	busy := len(k.wire) > 0
	for f, ok := k.arrives(); ok; f, ok = k.arrives() {
		if f.Kind == frame.Ack {
			k.hears(f)
			continue
		}
		k.takes(f)
		if k.often(60) {
			k.befell["the target's crash"]++
			k.startTarget()
		}
	}
	if f, ok := k.d.in.Answer(); ok && k.d.heard {
		k.carry(f)
	}
	k.d.heard = false
	_, used, _, _, _ := k.s.spool.Counts()
	k.want(used <= k.quota, "P7: the quota", used)
	return busy
}

// rests lets ticks pass in which nothing more goes wrong, until all is taken over and acknowledged, and nothing is under way any more (P6).
func (k *link) rests() {
	k.bad = false
	waits, _, _, _, _ := k.s.spool.Counts()
	// Late frames arrive within 30 ticks. Then the other end's restart may have to be found out; and each item is sent at most Most ticks behind the one ahead of it, and answered in the tick behind that.
	bound := k.now + 30 + (uint64(waits)+4)*(k.times.Most+2)
	for left := waits; k.tick() || left > 0; left, _, _, _, _ = k.s.spool.Counts() {
		k.want(k.now <= bound, "P6: not at rest", waits, left, outStateOf(k.s.out), inStateOf(k.d.in))
	}
	k.want(len(k.s.out.Sender().List()) == 0, "P6: in flight at rest", outStateOf(k.s.out))
	for origin, all := range k.s.put {
		k.want(len(k.d.taken[origin]) == len(all), "P6: not taken over", origin, len(all), len(k.d.taken[origin]))
		k.holds(origin, 0)
	}
	for range 40 {
		k.want(!k.tick(), "P6: frames are sent at rest")
	}
}

// TestLink lets links lose frames, double them, turn them round and bring them late, while their ends begin anew; and lets them come to rest, again and again. What is taken over is held against what was put behind each tick.
func TestLink(t *testing.T) {
	befell := map[string]int{}
	for seed := range int64(100) {
		k := newLink(t, rand.New(rand.NewSource(seed)), befell)
		for range 3 {
			k.bad = true
			for range 150 {
				k.tick()
			}
			k.rests()
		}
	}
	for _, what := range []string{"lost", "doubled", "full", "changed", "old", "no room", "data 0", "data 17", "data 19", "ack 0", "ack 17", "ack 18", "events", "gaps",
		"the source's crash", "the source's crash ahead of its sync", "the target's crash", "the target's crash ahead of its sync"} {
		if befell[what] < 500 {
			t.Log(befell)
			t.Errorf("%q befell the links only %d times", what, befell[what])
		}
	}
}
