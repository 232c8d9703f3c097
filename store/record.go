package store

import (
	"watchfire/api"
	"watchfire/item"
	"watchfire/pack"
	"watchfire/spool"
)

// The kinds of records, by their first byte.
const (
	kindPut byte = 1 + iota
	kindAck
	kindLife
	kindSnapshot
)

// head is how many bytes a record takes in a file beside its content.
const head = 8

// record returns the content of a record of a kind, which fill completes.
func record(kind byte, fill func(w *pack.Writer)) []byte {
	var w pack.Writer
	w.Byte(kind)
	fill(&w)
	return w.Bytes()
}

// write appends a record.
func (s *Store) write(kind byte, fill func(w *pack.Writer)) api.Errno {
	return s.file.Append(record(kind, fill))
}

// snapshot returns the content of a record of everything that the other records of the file have led to.
func (s *Store) snapshot() []byte {
	return record(kindSnapshot, func(w *pack.Writer) {
		w.Uint(s.life)
		putBase(w, s.queue.Base())
		w.Uint(uint64(len(s.fires)))
		for _, v := range s.fires {
			item.Put(w, item.Of(v))
		}
	})
}

func putBase(w *pack.Writer, b spool.Base) {
	w.Uint(b.Next)
	w.Uint(b.Acked)
	w.Uint(b.Evicted)
	for _, high := range b.Highs {
		w.Uint(high)
	}
	w.Uint(uint64(len(b.List)))
	for _, entry := range b.List {
		w.Uint(entry.Index)
		item.Put(w, entry.Item)
	}
}

// replay does again what a record tells. Beside an error, part of it may be done.
func (s *Store) replay(content []byte) api.Errno {
	if len(content) == 0 {
		return api.ErrKind
	}
	r := pack.Read(content[1:])
	switch content[0] {
	case kindPut:
		return s.replayPut(r)
	case kindAck:
		return s.replayAck(r)
	case kindLife:
		s.life = r.Uint()
		return r.Done()
	case kindSnapshot:
		// A file of generation 0 began without one, whatever stands in it.
		if s.gen > 0 {
			s.first = head + len(content)
		}
		return s.replaySnapshot(r)
	}
	return api.ErrKind
}

func (s *Store) replayPut(r *pack.Reader) api.Errno {
	x := item.Take(r)
	if e := r.Done(); e != api.OK {
		return e
	}
	if _, _, e := s.queue.Put(x); e != api.OK {
		return e
	}
	s.note(x)
	return api.OK
}

func (s *Store) replayAck(r *pack.Reader) api.Errno {
	index := r.Uint()
	if e := r.Done(); e != api.OK {
		return e
	}
	return s.queue.Ack(index)
}

// replaySnapshot replaces everything by what a snapshot has.
func (s *Store) replaySnapshot(r *pack.Reader) api.Errno {
	life := r.Uint()
	base := takeBase(r)
	fires := takeFires(r)
	if e := r.Done(); e != api.OK {
		return e
	}
	queue, e := spool.Of(s.queue.Quota(), base)
	if e != api.OK {
		return e
	}
	s.life, s.queue, s.fires = life, queue, nil
	for _, x := range fires {
		s.note(x)
	}
	return api.OK
}

func takeBase(r *pack.Reader) spool.Base {
	// The fields are read in the order in which they are written here.
	b := spool.Base{Next: r.Uint(), Acked: r.Uint(), Evicted: r.Uint()}
	for i := range b.Highs {
		b.Highs[i] = r.Uint()
	}
	// The number may be any: the bytes end ahead of one that is too great.
	for n := r.Uint(); n > 0 && r.Err() == api.OK; n-- {
		b.List = append(b.List, spool.Entry{Index: r.Uint(), Item: item.Take(r)})
	}
	return b
}

// takeFires reads the events of firing alerts; anything else among them makes the record one of no kind.
func takeFires(r *pack.Reader) []api.Item {
	var l []api.Item
	for n := r.Uint(); n > 0 && r.Err() == api.OK; n-- {
		x := item.Take(r)
		if x.IsGap || x.Event.State != api.Firing {
			r.Fail(api.ErrKind)
		}
		l = append(l, x)
	}
	return l
}
