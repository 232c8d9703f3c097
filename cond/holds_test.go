package cond

import (
	"math"
	"math/big"
	"math/rand"
	"testing"

	"watchfire/api"
)

const (
	least    = math.MinInt64
	greatest = math.MaxInt64
)

// wantHolds holds Holds' answer, again and again, against what it should be.
func wantHolds(t *testing.T, c Cond, s *Series, now uint64, holds bool, value int64) {
	t.Helper()
	for range 2 {
		if got, v := c.Holds(s, now); got != holds || v != value {
			t.Errorf("P13.2: Holds of %q at %d of %v: %v, %d, want %v, %d", c.Text(), now, s.Points(), got, v, holds, value)
		}
	}
}

// TestExample is the chapter's.
func TestExample(t *testing.T) {
	s := made(t, Point{1, 10}, Point{3, 5})
	rises, e := Parse("rises", "3", "5")
	wantError(t, "P13.3: Parse", e, api.OK)
	falls, e := Parse("falls", "3", "5")
	wantError(t, "P13.3: Parse", e, api.OK)
	wantHolds(t, rises, s, 3, false, 5)
	wantHolds(t, falls, s, 3, true, 5)
}

// valid returns conditions that Check lets pass, of each kind.
func valid() []Cond {
	var l []Cond
	for k := Above; k <= Falls; k++ {
		for _, limit := range limits() {
			for _, n := range ticks() {
				if c := (Cond{k, limit, n}); wantCheck(c) == api.OK {
					l = append(l, c)
				}
			}
		}
	}
	return l
}

// times are those at which conditions are asked for.
func times() []uint64 {
	return []uint64{0, 1, 2, 3, 1048575, 1048576, 1048577, top - 1, top, top + 1, top + 1048576, 1 << 41, 1 << 63, great - 1, great}
}

// TestHoldsNone: nothing holds of a series without points, nor of none.
func TestHoldsNone(t *testing.T) {
	for _, c := range valid() {
		for _, now := range times() {
			wantHolds(t, c, &Series{}, now, false, 0)
			wantHolds(t, c, nil, now, false, 0)
		}
	}
}

// TestAboveBelow asks for the last value against the limit, whatever time it is, and whatever was ahead of it.
func TestAboveBelow(t *testing.T) {
	values := []int64{least, least + 1, -8, -7, -6, -1, 0, 1, 6, 7, 8, greatest - 1, greatest}
	for _, limit := range values {
		for _, value := range values {
			for _, now := range times() {
				for _, s := range []*Series{made(t, Point{2, value}), made(t, Point{0, least}, Point{1, greatest}, Point{1, 0}, Point{2, value}), made(t, append(counted(40, 0), Point{top, value})...)} {
					wantHolds(t, Cond{Above, limit, 0}, s, now, value > limit, value)
					wantHolds(t, Cond{Below, limit, 0}, s, now, value < limit, value)
				}
			}
		}
	}
}

// TestAbsent asks how long it is since the last point.
func TestAbsent(t *testing.T) {
	for _, c := range []struct {
		last, ticks, now uint64
		holds            bool
	}{
		{0, 1, 0, false},
		{0, 1, 1, true},
		{0, 1, 2, true},
		{0, 1, great, true},
		{0, 5, 4, false},
		{0, 5, 5, true},
		{0, 5, 6, true},
		{0, 1048576, 1048575, false},
		{0, 1048576, 1048576, true},
		{7, 5, 11, false},
		{7, 5, 12, true},
		{7, 5, 13, true},
		{7, 5, 7, false},
		{7, 1, 7, false},
		{7, 1, 8, true},
		{7, 1, 6, false},
		{7, 5, 6, false},
		{7, 5, 2, false},
		{7, 5, 1, false},
		{7, 1, 0, false},
		{7, 1048576, 0, false},
		{1000, 1048576, 1049575, false},
		{1000, 1048576, 1049576, true},
		{top, 1, 0, false},
		{top, 1048576, 0, false},
		{top, 1, top - 1, false},
		{top, 1, top, false},
		{top, 1, top + 1, true},
		{top, 5, top + 4, false},
		{top, 5, top + 5, true},
		{top, 1048576, top + 1048575, false},
		{top, 1048576, top + 1048576, true},
		{top, 1048576, great, true},
	} {
		for _, value := range []int64{0, -3, least, greatest} {
			absent := Cond{Kind: Absent, Ticks: c.ticks}
			wantHolds(t, absent, made(t, Point{c.last, value}), c.now, c.holds, value)
			wantHolds(t, absent, made(t, Point{0, 1}, Point{c.last, 2}, Point{c.last, value}), c.now, c.holds, value)
		}
	}
}

// turned returns points whose values are -1 - value: what rises falls.
func turned(l []Point) []Point {
	var m []Point
	for _, p := range l {
		m = append(m, Point{p.Time, ^p.Value})
	}
	return m
}

// wantMoves holds Rises against what it should answer, Falls of the turned values likewise, and each of the other ones' values.
func wantMoves(t *testing.T, limit int64, ticks, now uint64, l []Point, rises, falls bool) {
	t.Helper()
	last := l[len(l)-1].Value
	wantHolds(t, Cond{Rises, limit, ticks}, made(t, l...), now, rises, last)
	wantHolds(t, Cond{Falls, limit, ticks}, made(t, l...), now, falls, last)
	wantHolds(t, Cond{Falls, limit, ticks}, made(t, turned(l)...), now, rises, ^last)
	wantHolds(t, Cond{Rises, limit, ticks}, made(t, turned(l)...), now, falls, ^last)
}

// TestMovesLimit asks by how much the last value is above another one's.
func TestMovesLimit(t *testing.T) {
	for _, c := range []struct {
		from, to, limit int64
		rises           bool
	}{
		{5, 5, 0, false},
		{5, 6, 0, true},
		{5, 8, 3, false},
		{5, 9, 3, true},
		{5, 7, 3, false},
		{-2, 1, 3, false},
		{-2, 2, 3, true},
		{-9, -5, 4, false},
		{-9, -4, 4, true},
		{0, greatest, greatest, false},
		{-1, greatest, greatest, true},
		{1, greatest, greatest - 1, false},
		{0, greatest, greatest - 1, true},
		{least, 0, greatest, true},
		{least, -1, greatest, false},
		{least, -1, greatest - 1, true},
		{least, greatest, greatest, true},
		{least, greatest, 0, true},
		{least, least, 0, false},
		{least, least + 1, 0, true},
		{least, least + 1, 1, false},
		{greatest, greatest, 0, false},
		{greatest - 1, greatest, 0, true},
		{greatest - 1, greatest, 1, false},
	} {
		for _, now := range []uint64{0, 2, 3, 8} {
			l := []Point{{2, c.from}, {3, c.to}}
			wantMoves(t, c.limit, 6, now, l, c.rises, false)
			back := []Point{{2, c.to}, {3, c.from}}
			wantMoves(t, c.limit, 6, now, back, false, c.rises)
		}
	}
}

// TestMovesOne: a series of one point, or of equal ones, does not rise nor fall.
func TestMovesOne(t *testing.T) {
	for _, value := range []int64{least, -1, 0, 1, greatest} {
		for _, limit := range []int64{0, 1, greatest} {
			for _, now := range times() {
				wantMoves(t, limit, 1, now, []Point{{2, value}}, false, false)
				wantMoves(t, limit, 1048576, now, []Point{{2, value}, {2, value}, {3, value}}, false, false)
			}
		}
	}
}

// TestMovesTicks asks which points count: those at most Ticks before now, and those after it.
func TestMovesTicks(t *testing.T) {
	for _, c := range []struct {
		low, last, ticks, now uint64
		rises                 bool
	}{
		{10, 12, 5, 14, true},
		{10, 12, 5, 15, true},
		{10, 12, 5, 16, false},
		{10, 12, 5, 12, true},
		{10, 12, 1, 11, true},
		{10, 12, 1, 12, false},
		{10, 12, 1, 10, true},
		{10, 12, 1, 9, true},
		{10, 12, 1, 0, true},
		{10, 12, 1, great, false},
		{10, 10, 1, 11, true},
		{10, 10, 1, 12, false},
		{10, 20, 1048576, 1048586, true},
		{10, 20, 1048576, 1048587, false},
		{0, 1, 1, 0, true},
		{0, 1, 1, 1, true},
		{0, 1, 1, 2, false},
		{0, 3, 5, 5, true},
		{0, 3, 5, 6, false},
		{0, 3, 1048576, 1048576, true},
		{0, 3, 1048576, 1048577, false},
		{0, 3, 1048576, great, false},
		{top, top, 1, 0, true},
		{top, top, 1, top + 1, true},
		{top, top, 1, top + 2, false},
		{top - 5, top, 1048576, top + 1048571, true},
		{top - 5, top, 1048576, top + 1048572, false},
		{top - 5, top, 5, top, true},
		{top - 5, top, 4, top, false},
		{0, top, 1048576, top, false},
		{0, top, 1048576, 1048576, true},
	} {
		wantMoves(t, 3, c.ticks, c.now, []Point{{c.low, 5}, {c.last, 9}}, c.rises, false)
		wantMoves(t, 4, c.ticks, c.now, []Point{{c.low, 5}, {c.last, 9}}, false, false)
		wantMoves(t, 3, c.ticks, c.now, []Point{{c.low, 5}, {c.last, 7}, {c.last, 9}}, c.rises, false)
	}
}

// TestMovesSome: any point that counts is enough, wherever it stands, and those of other values do not matter.
func TestMovesSome(t *testing.T) {
	for at := range 31 {
		l := counted(32, 0)
		for i := range l {
			l[i].Value = 100
		}
		l[at].Value = 96
		for now := range uint64(100) {
			in := now <= l[at].Time+20
			wantMoves(t, 3, 20, now, l, in, false)
			wantMoves(t, 4, 20, now, l, false, false)
		}
	}
}

// TestMovesKept: a point that is no longer kept does not count.
func TestMovesKept(t *testing.T) {
	l := []Point{{0, -1000}}
	for i := range 40 {
		l = append(l, Point{uint64(i / 20), 0})
		wantMoves(t, 999, 100, 1, l, i < 31, false)
	}
}

// wantMoved works out by great numbers what Rises and Falls answer.
func wantMoved(c Cond, l []Point, now uint64) bool {
	last := big.NewInt(l[len(l)-1].Value)
	from := new(big.Int).SetUint64(now)
	from.Sub(from, new(big.Int).SetUint64(c.Ticks))
	for _, p := range l {
		if new(big.Int).SetUint64(p.Time).Cmp(from) < 0 {
			continue
		}
		up := new(big.Int).Sub(last, big.NewInt(p.Value))
		if c.Kind == Falls {
			up.Neg(up)
		}
		if up.Cmp(big.NewInt(c.Limit)) > 0 {
			return true
		}
	}
	return false
}

// wantHeld works out by great numbers whether a condition holds.
func wantHeld(c Cond, l []Point, now uint64) bool {
	if len(l) == 0 {
		return false
	}
	last := l[len(l)-1]
	switch c.Kind {
	case Above:
		return last.Value > c.Limit
	case Below:
		return last.Value < c.Limit
	case Absent:
		since := new(big.Int).SetUint64(now)
		since.Sub(since, new(big.Int).SetUint64(last.Time))
		return since.Cmp(new(big.Int).SetUint64(c.Ticks)) >= 0
	}
	return wantMoved(c, l, now)
}

func some[T any](r *rand.Rand, of ...T) T {
	return of[r.Intn(len(of))]
}

// someCond returns a condition that Check lets pass.
func someCond(r *rand.Rand) Cond {
	c := Cond{Kind: Kind(1 + r.Intn(5))}
	n := some(r, 1, 2, uint64(1+r.Intn(20)), uint64(1+r.Intn(1048576)), 1048576)
	value := some(r, 0, int64(r.Intn(20)), r.Int63(), greatest)
	switch c.Kind {
	case Above, Below:
		c.Limit = some(r, value, ^value)
	case Absent:
		c.Ticks = n
	default:
		c.Limit, c.Ticks = value, n
	}
	return c
}

// someSeries returns a series, and the points that it should have.
func someSeries(t *testing.T, r *rand.Rand) (*Series, []Point) {
	t.Helper()
	var l []Point
	far := some(r, false, false, true)
	now := some(r, 0, uint64(r.Intn(30)), top-uint64(r.Intn(60)))
	for range some(r, r.Intn(3), r.Intn(10), r.Intn(80)) {
		now = min(now+uint64(r.Intn(3)), top)
		value := int64(r.Intn(40) - 20)
		if far {
			value = some(r, value, least+int64(r.Intn(3)), greatest-int64(r.Intn(3)), r.Int63(), -r.Int63())
		}
		l = append(l, Point{now, value})
	}
	return made(t, l...), l[max(0, len(l)-32):]
}

// TestAnySeries asks any conditions of any series, and holds each answer against great numbers.
func TestAnySeries(t *testing.T) {
	r := rand.New(rand.NewSource(1))
	found := map[Kind][2]int{}
	for range 4000 {
		s, l := someSeries(t, r)
		value, near := int64(0), uint64(0)
		if len(l) > 0 {
			value, near = l[len(l)-1].Value, l[r.Intn(len(l))].Time
		}
		for range 20 {
			c := someCond(r)
			now := some(r, near, near+c.Ticks, near+c.Ticks, near+c.Ticks+1, near+c.Ticks-1, near-1, uint64(r.Intn(60)), top+uint64(r.Intn(60)), r.Uint64(), great)
			holds := wantHeld(c, l, now)
			wantHolds(t, c, s, now, holds, value)
			n := found[c.Kind]
			if holds {
				n[1]++
			} else {
				n[0]++
			}
			found[c.Kind] = n
		}
		wantPoints(t, "R6, P13.2: Holds changes nothing", s, l...)
		if t.Failed() {
			return
		}
	}
	for k := Above; k <= Falls; k++ {
		if n := found[k]; n[0] < 1000 || n[1] < 1000 {
			t.Errorf("any series: kind %d holds %d times, and does not %d times", k, n[1], n[0])
		}
	}
}
