package sess

import (
	"watchfire/api"
	"watchfire/frame"
	"watchfire/recv"
)

// In is the end of a link that receives: how many numbers its window has; the last epoch that was seen, 0 if none was; and what came of it.
// The zero In takes nothing.
type In struct {
	ends
	window   int
	epoch    uint64
	receiver *recv.Receiver
}

// NewIn returns the end of a node that receives from another one, by which no epoch was seen yet.
func NewIn(self, peer uint8, life uint64, window int) (*In, api.Errno) {
	n, e := newEnds(self, peer, life)
	if e != api.OK {
		return nil, e
	}
	i := &In{ends: n, window: window}
	if e := i.begin(0); e != api.OK {
		return nil, e
	}
	return i, api.OK
}

// begin begins an epoch, with nothing held.
func (i *In) begin(epoch uint64) api.Errno {
	receiver, e := recv.New(i.window)
	if e != api.OK {
		return e
	}
	i.epoch, i.receiver = epoch, receiver
	return api.OK
}

// Data takes in an item. What was held of an earlier epoch is dropped when a later one is seen, whose numbers begin anew: it is sent again.
func (i *In) Data(f frame.Frame) api.Errno {
	if i == nil {
		return api.ErrNil
	}
	if e := i.check(f, frame.Data); e != api.OK {
		return e
	}
	if f.Epoch < i.epoch {
		return api.ErrOld
	}
	if f.Epoch > i.epoch {
		if e := i.begin(f.Epoch); e != api.OK {
			return e
		}
	}
	return i.receiver.Take(f.Seq, f.Item)
}

// Answer returns a frame that tells the other end what came of the last epoch, and true, or false if none was seen.
func (i *In) Answer() (frame.Frame, bool) {
	if i == nil || i.epoch == 0 {
		return frame.Frame{}, false
	}
	cum, bits := i.receiver.Ack()
	return frame.Frame{Kind: frame.Ack, From: i.self, To: i.peer, Epoch: i.epoch, Cum: cum, Bits: bits, Life: i.life}, true
}

// Receiver returns the last epoch's receiver itself, for inspection.
func (i *In) Receiver() *recv.Receiver {
	if i == nil {
		return nil
	}
	return i.receiver
}

// Epoch returns the last epoch that was seen, 0 if none was.
func (i *In) Epoch() uint64 {
	if i == nil {
		return 0
	}
	return i.epoch
}
