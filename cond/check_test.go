package cond

import (
	"fmt"
	"math"
	"testing"

	"watchfire/api"
)

// limits and ticks are numbers at and beside all bounds.
func limits() []int64 {
	return []int64{0, 1, -1, 5, -5, 1 << 20, 1<<20 + 1, -1 << 20, math.MaxInt64, math.MaxInt64 - 1, math.MinInt64, math.MinInt64 + 1}
}

func ticks() []uint64 {
	return []uint64{0, 1, 2, 5, 1048575, 1048576, 1048577, 1 << 40, 1<<40 + 1, 1 << 63, great - 1, great}
}

// TestKinds: the kinds are numbered from 1.
func TestKinds(t *testing.T) {
	if Above != 1 || Below != 2 || Absent != 3 || Rises != 4 || Falls != 5 {
		t.Errorf("P13.2: the kinds are %d, %d, %d, %d, %d", Above, Below, Absent, Rises, Falls)
	}
}

// TestCheck judges conditions one by one.
func TestCheck(t *testing.T) {
	const ok, kind, bounds = api.OK, api.ErrKind, api.ErrRange
	for _, c := range []struct {
		c Cond
		e api.Errno
	}{
		{Cond{Above, 0, 0}, ok}, {Cond{Above, 7, 0}, ok}, {Cond{Above, -7, 0}, ok}, {Cond{Above, math.MinInt64, 0}, ok}, {Cond{Above, math.MaxInt64, 0}, ok},
		{Cond{Above, 0, 1}, bounds}, {Cond{Above, 7, 1048576}, bounds}, {Cond{Above, -7, great}, bounds},
		{Cond{Below, 0, 0}, ok}, {Cond{Below, 7, 0}, ok}, {Cond{Below, -7, 0}, ok}, {Cond{Below, math.MinInt64, 0}, ok}, {Cond{Below, math.MaxInt64, 0}, ok},
		{Cond{Below, 0, 1}, bounds}, {Cond{Below, 7, 1048577}, bounds}, {Cond{Below, -7, great}, bounds},
		{Cond{Absent, 0, 1}, ok}, {Cond{Absent, 0, 2}, ok}, {Cond{Absent, 0, 1048576}, ok},
		{Cond{Absent, 0, 0}, bounds}, {Cond{Absent, 0, 1048577}, bounds}, {Cond{Absent, 0, great}, bounds},
		{Cond{Absent, 1, 1}, bounds}, {Cond{Absent, -1, 1}, bounds}, {Cond{Absent, math.MinInt64, 1048576}, bounds},
		{Cond{Rises, 0, 1}, ok}, {Cond{Rises, 1, 1}, ok}, {Cond{Rises, math.MaxInt64, 1048576}, ok},
		{Cond{Rises, 1, 0}, bounds}, {Cond{Rises, 1, 1048577}, bounds}, {Cond{Rises, -1, 1}, bounds}, {Cond{Rises, math.MinInt64, 1}, bounds}, {Cond{Rises, -1, 0}, bounds},
		{Cond{Falls, 0, 1}, ok}, {Cond{Falls, 1, 1}, ok}, {Cond{Falls, math.MaxInt64, 1048576}, ok},
		{Cond{Falls, 1, 0}, bounds}, {Cond{Falls, 1, 1048577}, bounds}, {Cond{Falls, -1, 1}, bounds}, {Cond{Falls, math.MinInt64, 1}, bounds}, {Cond{Falls, -1, great}, bounds},
		{Cond{}, kind}, {Cond{0, 1, 1}, kind}, {Cond{0, -1, 0}, kind}, {Cond{0, -1, great}, kind},
		{Cond{Falls + 1, 0, 0}, kind}, {Cond{Falls + 1, 0, 1}, kind}, {Cond{Falls + 1, -1, great}, kind},
		{Cond{255, 0, 0}, kind}, {Cond{255, 0, 1}, kind}, {Cond{255, math.MinInt64, great}, kind},
	} {
		wantError(t, fmt.Sprintf("P13.2: Check of %v", c.c), c.c.Check(), c.e)
	}
}

// TestCheckAll judges every kind with all the numbers at the bounds: ErrKind comes ahead of ErrRange.
func TestCheckAll(t *testing.T) {
	for k := range 256 {
		for _, limit := range limits() {
			for _, n := range ticks() {
				c := Cond{Kind(k), limit, n}
				wantError(t, fmt.Sprintf("P13.2: Check of %v", c), c.Check(), wantCheck(c))
			}
		}
	}
}

// wantCheck works out what Check answers, sentence by sentence of the chapter.
func wantCheck(c Cond) api.Errno {
	if c.Kind != Above && c.Kind != Below && c.Kind != Absent && c.Kind != Rises && c.Kind != Falls {
		return api.ErrKind
	}
	if (c.Kind == Above || c.Kind == Below) && c.Ticks != 0 {
		return api.ErrRange
	}
	if c.Kind == Absent && c.Limit != 0 {
		return api.ErrRange
	}
	if c.Kind == Absent || c.Kind == Rises || c.Kind == Falls {
		if c.Limit < 0 || c.Ticks < 1 || c.Ticks > 1048576 {
			return api.ErrRange
		}
	}
	return api.OK
}
