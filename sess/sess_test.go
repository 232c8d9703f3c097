package sess

import (
	"fmt"
	"math"
	"testing"

	"watchfire/api"
	"watchfire/frame"
	"watchfire/item"
	"watchfire/recv"
	"watchfire/send"
	"watchfire/spool"
)

// great is the greatest number.
const great = math.MaxUint64

// The lives of most tests' ends, which are node 2 in its life 3 and node 1 in its life 7.
const (
	outLife = 3
	inLife  = 7
)

// times returns those of most tests: four items may be in flight.
func times() Times {
	return Times{Window: 4, First: 1, Most: 8}
}

// outState is all that is to be known of a sending end.
type outState struct {
	epoch, seen             uint64
	room                    int
	list                    []send.Flight
	base, next, sent, again uint64
}

func outStateOf(o *Out) outState {
	is := outState{epoch: o.Epoch(), room: o.Sender().Room(), list: o.Sender().List()}
	is.base, is.next, is.sent, is.again = o.Sender().Counts()
	if o != nil {
		is.seen = o.seen // no function tells it
	}
	return is
}

// inState is all that is to be known of a receiving end.
type inState struct {
	epoch     uint64
	first     api.Item
	found     bool
	cum, bits uint64
	want      uint64
	held      int
	old       uint64
	answer    frame.Frame
	answers   bool
}

func inStateOf(i *In) inState {
	is := inState{epoch: i.Epoch()}
	is.first, is.found = i.Receiver().Peek()
	is.cum, is.bits = i.Receiver().Ack()
	is.want, is.held, is.old = i.Receiver().Counts()
	is.answer, is.answers = i.Answer()
	return is
}

// show prints every field, those too that item.Same passes over: an empty list is printed as nil is.
func show(of any) string {
	return fmt.Sprintf("%+v", of)
}

func wantShown(t *testing.T, about string, got, want any) {
	t.Helper()
	if show(got) != show(want) {
		t.Errorf("%s: %s, want %s", about, show(got), show(want))
	}
}

func wantOut(t *testing.T, about string, o *Out, want outState) {
	t.Helper()
	wantShown(t, about, outStateOf(o), want)
}

func wantIn(t *testing.T, about string, i *In, want inState) {
	t.Helper()
	wantShown(t, about, inStateOf(i), want)
}

func wantError(t *testing.T, about string, got, want api.Errno) {
	t.Helper()
	if got != want {
		t.Errorf("%s: %d, want %d", about, got, want)
	}
}

// wantFrames holds frames against those that there should be; none may be nil or empty.
func wantFrames(t *testing.T, about string, got []frame.Frame, want ...frame.Frame) {
	t.Helper()
	wantShown(t, about, got, want)
	for _, f := range got {
		wantError(t, about+": frame.Check", frame.Check(f), api.OK)
	}
}

// newOut returns the sending end of node 2 to node 1.
func newOut(t *testing.T, ts Times) *Out {
	t.Helper()
	o, e := NewOut(2, 1, outLife, ts)
	if e != api.OK {
		t.Fatalf("P12.1: NewOut with %+v: %d", ts, e)
	}
	return o
}

// newIn returns the receiving end of node 1 from node 2.
func newIn(t *testing.T, window int) *In {
	t.Helper()
	i, e := NewIn(1, 2, inLife, window)
	if e != api.OK {
		t.Fatalf("P12.3: NewIn with %d: %d", window, e)
	}
	return i
}

// numbered returns an event of origin 2 that tells its count.
func numbered(count uint64) api.Item {
	return item.Of(api.Event{Origin: 2, Seq: count, Time: 8, Rule: "load", Labels: []api.Pair{{Key: "host", Value: "a"}, {Key: "job", Value: fmt.Sprint(count % 1000)}}, State: api.Firing, Prio: 3, Value: int64(count)})
}

// waiting returns a spool in which the items of these indexes wait, which are the counts from 1 on, those up to acked being acknowledged.
func waiting(t *testing.T, acked uint64, indexes ...uint64) *spool.Spool {
	t.Helper()
	b := spool.Base{Next: acked + 1, Acked: acked}
	for i, index := range indexes {
		b.List = append(b.List, spool.Entry{Index: index, Item: numbered(uint64(i + 1))})
		b.Next, b.Highs[2] = index+1, uint64(i+1)
	}
	s, e := spool.Of(api.MaxQuota, b)
	if e != api.OK {
		t.Fatalf("P8.3: Of %v behind %d: %d", indexes, acked, e)
	}
	return s
}

// upTo returns the numbers from 1 to n.
func upTo(n int) []uint64 {
	var l []uint64
	for i := range n {
		l = append(l, uint64(i+1))
	}
	return l
}

// fills fills a sender, and holds against it how many items come in flight.
func fills(t *testing.T, about string, o *Out, s *spool.Spool, now uint64, want int) {
	t.Helper()
	if got := o.Fill(s, now); got != want {
		t.Errorf("%s: Fill: %d, want %d", about, got, want)
	}
}

// wantIndexes holds the indexes in flight against those that there should be, with the numbers behind the last one that was removed.
func wantIndexes(t *testing.T, about string, o *Out, want ...uint64) {
	t.Helper()
	base, _, _, _ := o.Sender().Counts()
	var got []uint64
	for i, f := range o.Sender().List() {
		got = append(got, f.Index)
		if f.Seq != base+uint64(i)+1 {
			t.Errorf("%s: index %d has the number %d behind %d", about, f.Index, f.Seq, base)
		}
	}
	wantShown(t, about, got, want)
}

// data returns a frame from node 2 to node 1.
func data(epoch, seq uint64, x api.Item) frame.Frame {
	return frame.Frame{Kind: frame.Data, From: 2, To: 1, Epoch: epoch, Seq: seq, Item: x}
}

// ack returns a frame from node 1 to node 2.
func ack(epoch, cum, bits, life uint64) frame.Frame {
	return frame.Frame{Kind: frame.Ack, From: 1, To: 2, Epoch: epoch, Cum: cum, Bits: bits, Life: life}
}

// acks hands in an acknowledgement that is accepted, and holds the index against it that is returned.
func acks(t *testing.T, o *Out, f frame.Frame, want uint64) {
	t.Helper()
	if index, e := o.Ack(f); index != want || e != api.OK {
		t.Fatalf("P12.2: Ack(%+v): %d, %d, want %d", f, index, e, want)
	}
}

// wantAck holds an error against an acknowledgement, beside which there is no index.
func wantAck(t *testing.T, about string, o *Out, f frame.Frame, want api.Errno) {
	t.Helper()
	if index, e := o.Ack(f); index != 0 || e != want {
		t.Errorf("%s: Ack(%+v): %d, %d, want 0, %d", about, f, index, e, want)
	}
}

// epochOf returns the epoch of a session of most tests' sending end.
func epochOf(session uint64) uint64 {
	return outLife*1048576 + session
}

func TestExample(t *testing.T) {
	o, e := NewOut(2, 1, 2, times())
	if e != api.OK || o.Epoch() != 2097153 {
		t.Errorf("P12.1: in life 2: %d, %d", o.Epoch(), e)
	}
}

// refusedTimes are refused by send.New, by an error.
type refusedTimes struct {
	t Times
	e api.Errno
}

func allRefused() []refusedTimes {
	return []refusedTimes{
		{Times{math.MinInt, 1, 1}, api.ErrWindow},
		{Times{-1, 1, 1}, api.ErrWindow},
		{Times{0, 1, 1}, api.ErrWindow},
		{Times{65, 1, 1}, api.ErrWindow},
		{Times{math.MaxInt, 1, 1}, api.ErrWindow},
		{Times{4, 0, 0}, api.ErrRange},
		{Times{4, 0, 1}, api.ErrRange},
		{Times{4, 0, 1048576}, api.ErrRange},
		{Times{4, 1, 0}, api.ErrRange},
		{Times{4, 3, 2}, api.ErrRange},
		{Times{4, 1, 1048577}, api.ErrRange},
		{Times{4, 1048577, 1048577}, api.ErrRange},
		{Times{4, great, great}, api.ErrRange},
		{Times{0, 0, 1}, api.ErrWindow},
		{Times{65, 3, 2}, api.ErrWindow},
		{Times{-4, 1, great}, api.ErrWindow},
		{Times{}, api.ErrWindow},
	}
}

func allAccepted() []Times {
	return []Times{{1, 1, 1}, {64, 1, 1}, {1, 1, 1048576}, {64, 1048576, 1048576}, {4, 2, 3}, times()}
}

func TestCheck(t *testing.T) {
	for _, c := range allRefused() {
		wantError(t, "P12.1: Check of "+show(c.t), c.t.Check(), c.e)
		_, e := send.New(c.t.Window, c.t.First, c.t.Most)
		wantError(t, "P10.1: New of "+show(c.t), e, c.e)
	}
	for _, ts := range allAccepted() {
		wantError(t, "P12.1: Check of "+show(ts), ts.Check(), api.OK)
	}
}

// wantNew makes both ends, and holds their errors against them.
func wantNew(t *testing.T, self, peer uint8, life uint64, ts Times, want api.Errno) {
	t.Helper()
	about := fmt.Sprintf("of node %d to %d, in life %d, with %+v", self, peer, life, ts)
	o, e := NewOut(self, peer, life, ts)
	wantError(t, "P12.1: NewOut "+about, e, want)
	if (o == nil) != (want != api.OK) {
		t.Errorf("R3: NewOut %s: %v", about, o)
	}
	if want == api.OK {
		wantOut(t, "P12.1: NewOut "+about, o, outState{epoch: life*1048576 + 1, room: ts.Window, next: 1})
	}
	wantIn := want
	if want != api.ErrNode && life > 0 && life < 1048576 {
		_, wantIn = recv.New(ts.Window) // a receiver has no times
	}
	i, e := NewIn(self, peer, life, ts.Window)
	wantError(t, "P12.3: NewIn "+about, e, wantIn)
	if (i == nil) != (wantIn != api.OK) {
		t.Errorf("R3: NewIn %s: %v", about, i)
	}
	if wantIn == api.OK {
		wantShown(t, "P12.3: NewIn "+about, inStateOf(i), inState{want: 1})
	}
}

func TestNewNodes(t *testing.T) {
	for self := range 256 {
		for peer := range 256 {
			want := api.OK
			if self > 31 || peer > 31 || self == peer {
				want = api.ErrNode
			}
			wantNew(t, uint8(self), uint8(peer), 1, times(), want)
		}
	}
}

func TestNewLives(t *testing.T) {
	for _, life := range []uint64{1, 2, 1000, 1048574, 1048575} {
		wantNew(t, 0, 31, life, times(), api.OK)
	}
	for _, life := range []uint64{0, 1048576, 1048577, 2097152, api.MaxNumber, 1 << 63, great} {
		wantNew(t, 0, 31, life, times(), api.ErrRange)
	}
}

func TestNewTimes(t *testing.T) {
	for _, ts := range allAccepted() {
		wantNew(t, 31, 0, 1, ts, api.OK)
	}
	for _, c := range allRefused() {
		wantNew(t, 31, 0, 1, c.t, c.e)
	}
}

// TestNewOrder: nodes are asked ahead of the life, and the life ahead of the window and the times (R2).
func TestNewOrder(t *testing.T) {
	for _, c := range append(allRefused(), refusedTimes{times(), api.OK}) {
		for _, life := range []uint64{0, 1, 1048575, 1048576, great} {
			for _, nodes := range [][2]uint8{{0, 32}, {32, 0}, {32, 32}, {5, 5}, {31, 255}, {255, 31}} {
				wantNew(t, nodes[0], nodes[1], life, c.t, api.ErrNode)
			}
			if life == 0 || life > 1048575 {
				wantNew(t, 0, 31, life, c.t, api.ErrRange)
			}
		}
	}
}
