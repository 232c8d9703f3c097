package sess

import (
	"watchfire/api"
	"watchfire/frame"
	"watchfire/send"
	"watchfire/spool"
)

// Out is the end of a link that sends what waits in a spool: its session, and what is in flight in that; and the greatest life of the other end that was seen, 0 if none was.
// The zero Out sends nothing.
type Out struct {
	ends
	times   Times
	session uint64
	sender  *send.Sender
	seen    uint64
}

// NewOut returns the end of a node that sends to another one, in its first session.
func NewOut(self, peer uint8, life uint64, t Times) (*Out, api.Errno) {
	n, e := newEnds(self, peer, life)
	if e != api.OK {
		return nil, e
	}
	o := &Out{ends: n, times: t}
	if e := o.Restart(); e != api.OK {
		return nil, e
	}
	return o, api.OK
}

// Restart begins the next session, with nothing in flight.
func (o *Out) Restart() api.Errno {
	if o == nil {
		return api.ErrNil
	}
	if o.session >= most {
		return api.ErrEpoch
	}
	sender, e := send.New(o.times.Window, o.times.First, o.times.Most)
	if e != api.OK {
		return e
	}
	o.session, o.sender = o.session+1, sender
	return api.OK
}

// Epoch returns the number of the session, which is above those of all earlier sessions, and of all earlier lives.
func (o *Out) Epoch() uint64 {
	if o == nil {
		return 0
	}
	return o.life*(most+1) + o.session
}

// Fill puts in flight what waits in s behind the last item in flight, as long as there is room. It returns how many items that are.
func (o *Out) Fill(s *spool.Spool, now uint64) int {
	if o == nil {
		return 0
	}
	many := 0
	// What is acknowledged in s does not wait there any more, so that nothing is left to be passed over but what is in flight.
	for _, entry := range s.List(o.sender.Last(), o.sender.Room()) {
		if _, e := o.sender.Offer(entry.Index, now); e != api.OK {
			break
		}
		many++
	}
	return many
}

// Frames returns the items that are due and still in s, as s has them, as frames.
func (o *Out) Frames(s *spool.Spool, now uint64) []frame.Frame {
	if o == nil {
		return nil
	}
	var frames []frame.Frame
	for _, f := range o.sender.Due(now) {
		// What Find returns for an index that is gone is an item ahead of it.
		entry, found := s.Find(f.Index)
		if !found || entry.Index != f.Index {
			continue
		}
		frames = append(frames, frame.Frame{Kind: frame.Data, From: o.self, To: o.peer, Epoch: o.Epoch(), Seq: f.Seq, Item: entry.Item})
	}
	return frames
}

// Changed takes in that the spool's items from an index on were changed (0: none). A new session begins if that may be in flight, since the other end may have some of it as it was. It reports whether one began.
func (o *Out) Changed(from uint64) bool {
	if o == nil || from == 0 || o.sender.Last() < from {
		return false
	}
	return o.Restart() == api.OK
}

// Ack takes in an acknowledgement, and returns the index of the last item that is no longer in flight by it, 0 if there is none. In a later life the other end lacks what it held and expects number 1, so that a new session begins.
func (o *Out) Ack(f frame.Frame) (uint64, api.Errno) {
	if o == nil {
		return 0, api.ErrNil
	}
	if e := o.check(f, frame.Ack); e != api.OK {
		return 0, e
	}
	if f.Epoch != o.Epoch() || f.Life < o.seen {
		return 0, api.ErrOld
	}
	if o.sees(f.Life) {
		return 0, o.renew()
	}
	return o.sender.Ack(f.Cum, f.Bits)
}

// sees records a life of the other end, which is not below the greatest one that was seen. It reports whether it is later than one that was seen before.
func (o *Out) sees(life uint64) bool {
	was := o.seen
	o.seen = life
	return was != 0 && life > was
}

// renew begins a new session, and returns the error that tells of it.
func (o *Out) renew() api.Errno {
	if e := o.Restart(); e != api.OK {
		return e
	}
	return api.ErrEpoch
}

// Sender returns the session's sender itself, for inspection.
func (o *Out) Sender() *send.Sender {
	if o == nil {
		return nil
	}
	return o.sender
}
