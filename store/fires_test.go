package store

import (
	"fmt"
	"testing"

	"watchfire/api"
	"watchfire/disk"
	"watchfire/item"
)

// wantFires holds what fires against the counts of the events that should.
func wantFires(t *testing.T, about string, s *Store, want ...uint64) {
	t.Helper()
	var counts []uint64
	for _, v := range s.Fires() {
		counts = append(counts, v.Seq)
	}
	if fmt.Sprint(counts) != fmt.Sprint(want) {
		t.Errorf("P9.2: %s: of Fires the counts are %d, want %d", about, counts, want)
	}
}

// turn returns an event of an alert of node 1.
func turn(seq uint64, state api.State, rule string, labels ...api.Pair) api.Item {
	return item.Of(api.Event{Origin: 1, Seq: seq, Time: seq * 3, Rule: rule, Labels: labels, State: state, Prio: 4, Value: -int64(seq)})
}

// eachWay runs a test on a store that goes on as it is, on one that is opened again behind each item, on one whose file is written anew behind each, and on one with both.
func eachWay(t *testing.T, quota int, test func(t *testing.T, put func(x api.Item) *Store)) {
	for _, way := range []string{"as it is", "opened again", "anew", "anew and opened again"} {
		t.Run(way, func(t *testing.T) {
			d := disk.New()
			s := open(t, "an empty disk", d, 1, quota)
			test(t, func(x api.Item) *Store {
				puts(t, s, x)
				if way == "anew" || way == "anew and opened again" {
					_, gen := s.Sizes()
					add(d, fmt.Sprint("s.", gen), make([]byte, s.Room()))
				}
				if way != "as it is" {
					syncs(t, "behind Put", s)
				}
				if way == "opened again" || way == "anew and opened again" {
					d.Crash()
					s = open(t, "behind a crash", d, 1, quota)
				}
				return s
			})
		})
	}
}

// TestFires turns alerts there and back.
func TestFires(t *testing.T) {
	one, two := api.Pair{Key: "room", Value: "one"}, api.Pair{Key: "room", Value: "two"}
	both := []api.Pair{{Key: "a", Value: "b"}, one}
	eachWay(t, 200, func(t *testing.T, put func(x api.Item) *Store) {
		wantFires(t, "one fires", put(turn(1, api.Firing, "hot")), 1)
		wantFires(t, "one is idle that was not known", put(turn(2, api.Idle, "cold")), 1)
		wantFires(t, "the same rule with a label", put(turn(3, api.Firing, "hot", one)), 1, 3)
		wantFires(t, "the same rule with another value", put(turn(4, api.Firing, "hot", two)), 1, 3, 4)
		wantFires(t, "the same rule with more labels", put(turn(5, api.Firing, "hot", both...)), 1, 3, 4, 5)
		wantFires(t, "another rule with a label", put(turn(6, api.Firing, "cold", one)), 1, 3, 4, 5, 6)
		wantFires(t, "one fires again", put(turn(7, api.Firing, "hot", one)), 1, 4, 5, 6, 7)
		wantFires(t, "one is idle", put(turn(8, api.Idle, "hot", two)), 1, 5, 6, 7)
		wantFires(t, "one is idle again", put(turn(9, api.Idle, "hot", two)), 1, 5, 6, 7)
		wantFires(t, "one without labels is idle", put(turn(10, api.Idle, "hot")), 5, 6, 7)
		wantFires(t, "one of a rule that begins like another", put(turn(11, api.Idle, "hotter", both...)), 5, 6, 7)
		wantFires(t, "one that was idle fires", put(turn(12, api.Firing, "hot", two)), 5, 6, 7, 12)
		s := put(turn(13, api.Idle, "hot", both...))
		wantFires(t, "one of two labels is idle", s, 6, 7, 12)
		want := []api.Event{turn(6, api.Firing, "cold", one).Event, turn(7, api.Firing, "hot", one).Event, turn(12, api.Firing, "hot", two).Event}
		if got := s.Fires(); !sameEvents(got, want) {
			t.Errorf("P9.2: Fires: %+v, want %+v", got, want)
		}
		put(turn(14, api.Idle, "cold", one))
		put(turn(15, api.Idle, "hot", one))
		wantFires(t, "nothing fires", put(turn(16, api.Idle, "hot", two)))
	})
}

// ownTurn returns an event of node 1 about itself.
func ownTurn(seq uint64, state api.State, own uint8) api.Item {
	x := turn(seq, state, "own.a")
	x.Event.Own = own
	return x
}

// TestFiresOwn: events of a node's own are told apart by Own.
func TestFiresOwn(t *testing.T) {
	eachWay(t, 200, func(t *testing.T, put func(x api.Item) *Store) {
		wantFires(t, "an own event", put(ownTurn(1, api.Firing, api.OwnEvict)), 1)
		wantFires(t, "another kind of own", put(ownTurn(2, api.Firing, api.OwnDown)), 1, 2)
		wantFires(t, "the first kind, idle", put(ownTurn(3, api.Idle, api.OwnEvict)), 2)
		wantFires(t, "the first kind again", put(ownTurn(4, api.Firing, api.OwnEvict)), 2, 4)
		wantFires(t, "the second kind again", put(ownTurn(5, api.Firing, api.OwnDown)), 4, 5)
	})
}

// TestFiresOthers: events of other origins, and gaps, neither fire nor end what does.
func TestFiresOthers(t *testing.T) {
	of := func(origin uint8, x api.Item) api.Item {
		x.Event.Origin = origin
		return x
	}
	eachWay(t, 200, func(t *testing.T, put func(x api.Item) *Store) {
		wantFires(t, "one of node 0", put(of(0, turn(1, api.Firing, "hot"))))
		wantFires(t, "one of node 2", put(of(2, turn(1, api.Firing, "hot"))))
		wantFires(t, "one of its own", put(turn(1, api.Firing, "hot")), 1)
		wantFires(t, "one of node 2 is idle", put(of(2, turn(2, api.Idle, "hot"))), 1)
		wantFires(t, "one of node 31 is idle", put(of(31, turn(1, api.Idle, "hot"))), 1)
		inGap := gap(1, 2, 9)
		inGap.Event = turn(2, api.Idle, "hot").Event
		wantFires(t, "a gap with an idle event beside it", put(inGap), 1)
		inGap = gap(1, 10, 10)
		inGap.Event = turn(2, api.Firing, "cold").Event
		wantFires(t, "a gap with a firing event beside it", put(inGap), 1)
		wantFires(t, "one behind a gap", put(turn(11, api.Firing, "cold")), 1, 11)
	})
}

// TestFiresEvicted: an alert fires also if its event no longer waits.
func TestFiresEvicted(t *testing.T) {
	eachWay(t, 64, func(t *testing.T, put func(x api.Item) *Store) {
		put(turn(1, api.Firing, "hot"))
		put(turn(2, api.Firing, "cold"))
		s := put(sized(2, 1, 7, 50))
		if s.Evicted() != 2 {
			t.Fatalf("P9.3: %d are evicted", s.Evicted())
		}
		wantFires(t, "two that were evicted", s, 1, 2)
		wantError(t, "P9.2: Ack", s.Ack(3), api.OK)
		wantFires(t, "two whose gap was acknowledged", s, 1, 2)
		s = put(turn(3, api.Idle, "hot"))
		wantFires(t, "one ends", s, 2)
		wantError(t, "P9.2: Ack", s.Ack(4), api.OK)
		wantFires(t, "all is acknowledged", s, 2)
		wantFires(t, "the last one fires again", put(turn(4, api.Firing, "cold")), 4)
	})
}

// TestFiresRefused: items that are refused neither fire nor end what does.
func TestFiresRefused(t *testing.T) {
	s := open(t, "an empty disk", disk.New(), 1, 64)
	puts(t, s, turn(1, api.Firing, "a"), turn(2, api.Idle, "b"))
	for _, x := range []api.Item{turn(1, api.Idle, "a"), turn(2, api.Firing, "b"), turn(4, api.Idle, "a"), filled(turn(3, api.Idle, "a").Event, 65), turn(3, api.Unknown, "a")} {
		if _, _, e := s.Put(x); e == api.OK {
			t.Errorf("P9.2: Put(%+v) is allowed", x)
		}
		wantFires(t, "behind a refusal", s, 1)
	}
}

// TestFiresOtherNode: a store that another node's file tells of has what fires of its own origin; of a snapshot, nothing else is left.
func TestFiresOtherNode(t *testing.T) {
	d := disk.New()
	s := open(t, "an empty disk", d, 1, 200)
	puts(t, s, turn(1, api.Firing, "a"), firing(2, 1, "b"), turn(2, api.Firing, "b"), firing(2, 2, "c"))
	syncs(t, "behind Put", s)
	s = open(t, "the file of node 1", d, 2, 200)
	if l := s.Fires(); !sameEvents(l, []api.Event{firing(2, 1, "b").Event, firing(2, 2, "c").Event}) || s.Next() != 3 {
		t.Errorf("P9.2: Fires of node 2: %+v", l)
	}
	add(d, "s.0", make([]byte, s.Room()))
	syncs(t, "of a long file", s)
	wantFires(t, "the snapshot of node 2", open(t, "the file of node 2", d, 1, 200))
	l := []api.Item{firing(1, 5, "z"), firing(2, 9, "z"), firing(1, 7, "y"), firing(1, 3, "z"), firing(1, 2, "z", api.Pair{Key: "a", Value: "b"})}
	wantFires(t, "a snapshot in which one fires twice", open(t, "a snapshot", onDisk("s.1", laid(snapshotRecord(1, someBase(), l...))), 1, 64), 7, 3, 2)
}

// TestFiresMany: very many alerts fire, and each of them ends.
func TestFiresMany(t *testing.T) {
	d := disk.New()
	s := open(t, "an empty disk", d, 1, 300)
	seq, many := uint64(0), 1000
	alert := func(n int, state api.State) api.Item {
		seq++
		return turn(seq, state, "hot", api.Pair{Key: "n", Value: fmt.Sprint(n)})
	}
	for n := range many {
		puts(t, s, alert(n, api.Firing))
	}
	syncs(t, "of many", s)
	d.Crash()
	s = open(t, "many that fire", d, 1, 300)
	if l := s.Fires(); len(l) != many || l[0].Seq != 1 || l[many-1].Seq != uint64(many) {
		t.Fatalf("P9.2: %d fire", len(l))
	}
	for n := range many {
		puts(t, s, alert(many-n-1, api.Idle))
		if l := s.Fires(); len(l) != many-n-1 {
			t.Fatalf("P9.2: %d fire, where %d ended", len(l), n+1)
		}
	}
}
