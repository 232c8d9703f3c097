package cond

import (
	"fmt"
	"math"
	"slices"
	"testing"

	"watchfire/api"
)

// great is the greatest number, and top the greatest time of a point.
const (
	great = math.MaxUint64
	top   = 1 << 40
)

func wantError(t *testing.T, about string, got, want api.Errno) {
	t.Helper()
	if got != want {
		t.Errorf("%s: %d, want %d", about, got, want)
	}
}

// made returns a series to which the points were added.
func made(t *testing.T, l ...Point) *Series {
	t.Helper()
	s := &Series{}
	adds(t, s, l...)
	return s
}

// adds adds points, of which none is refused.
func adds(t *testing.T, s *Series, l ...Point) {
	t.Helper()
	for _, p := range l {
		if e := s.Add(p.Time, p.Value); e != api.OK {
			t.Fatalf("P13.1: Add(%d, %d): %d", p.Time, p.Value, e)
		}
	}
}

// wantPoints holds all that a series tells of itself against the points that it should have.
func wantPoints(t *testing.T, about string, s *Series, want ...Point) {
	t.Helper()
	if got := s.Points(); !slices.Equal(got, want) {
		t.Errorf("%s: Points: %v, want %v", about, got, want)
	}
	last, found := s.Last()
	if len(want) == 0 {
		if found || last != (Point{}) {
			t.Errorf("%s: Last: %v, %v, where there is none", about, last, found)
		}
		return
	}
	if !found || last != want[len(want)-1] {
		t.Errorf("%s: Last: %v, %v, want %v", about, last, found, want[len(want)-1])
	}
}

// counted returns n points, at each second time from some on, with values that rise and fall.
func counted(n int, from uint64) []Point {
	var l []Point
	for i := range n {
		l = append(l, Point{from + 2*uint64(i), int64((i*37)%101 - 50)})
	}
	return l
}

// TestZero: the zero series has no points.
func TestZero(t *testing.T) {
	for range 3 {
		wantPoints(t, "P13.1: the zero series", &Series{})
	}
	var s Series
	wantPoints(t, "P13.1: a zero series", &s)
	adds(t, &s, Point{3, 4})
	wantPoints(t, "P13.1: a zero series with a point", &s, Point{3, 4})
}

// TestAddFirst adds the first point of a series at any time.
func TestAddFirst(t *testing.T) {
	for _, c := range []struct {
		now uint64
		e   api.Errno
	}{
		{0, api.OK},
		{1, api.OK},
		{top - 1, api.OK},
		{top, api.OK},
		{top + 1, api.ErrRange},
		{1 << 41, api.ErrRange},
		{1 << 63, api.ErrRange},
		{great, api.ErrRange},
	} {
		for _, value := range []int64{0, 1, -1, math.MaxInt64, math.MinInt64} {
			s := &Series{}
			wantError(t, fmt.Sprintf("P13.1: Add(%d, %d)", c.now, value), s.Add(c.now, value), c.e)
			if c.e == api.OK {
				wantPoints(t, "P13.1: the first point", s, Point{c.now, value})
			} else {
				wantPoints(t, "P13.1, R4: a first point that is refused", s)
			}
		}
	}
}

// TestAddNext adds a point behind others, at the last one's time, later and ahead of it.
func TestAddNext(t *testing.T) {
	for _, c := range []struct {
		last, now uint64
		e         api.Errno
	}{
		{0, 0, api.OK},
		{0, 1, api.OK},
		{0, top, api.OK},
		{0, top + 1, api.ErrRange},
		{1, 0, api.ErrOrder},
		{1, 1, api.OK},
		{1, 2, api.OK},
		{5, 4, api.ErrOrder},
		{5, 0, api.ErrOrder},
		{5, 5, api.OK},
		{5, 6, api.OK},
		{5, 1000000, api.OK},
		{top - 1, top - 2, api.ErrOrder},
		{top - 1, top - 1, api.OK},
		{top - 1, top, api.OK},
		{top - 1, top + 1, api.ErrRange},
		{top, 0, api.ErrOrder},
		{top, top - 1, api.ErrOrder},
		{top, top, api.OK},
		{top, top + 1, api.ErrRange},
		{top, great, api.ErrRange},
	} {
		// An earlier point whose time is below the last one's is no bound.
		for _, ahead := range [][]Point{nil, {{0, 9}}, counted(40, 0)} {
			if len(ahead) > 0 && ahead[len(ahead)-1].Time > c.last {
				continue
			}
			s := made(t, ahead...)
			adds(t, s, Point{c.last, 7})
			was := s.Points()
			wantError(t, fmt.Sprintf("P13.1: Add at %d behind a point at %d", c.now, c.last), s.Add(c.now, -3), c.e)
			if c.e == api.OK {
				was = append(was, Point{c.now, -3})
			}
			wantPoints(t, "P13.1: behind Add", s, was[max(0, len(was)-32):]...)
		}
	}
}

// TestAddErrors: ErrRange comes ahead of ErrOrder. No caller can have both at once, as no point is behind 2^40, so the last one's time is set here.
func TestAddErrors(t *testing.T) {
	for _, now := range []uint64{top + 1, top + 2, 1 << 41} {
		s := made(t, Point{1, 2})
		s.points[0].Time = great
		wantError(t, "R2: both errors at once", s.Add(now, 0), api.ErrRange)
		wantError(t, "R2: the second error alone", s.Add(top, 0), api.ErrOrder)
		wantPoints(t, "R4: both errors at once", s, Point{great, 2})
	}
}

// TestKept adds many points: the last 32 are kept.
func TestKept(t *testing.T) {
	for _, n := range []int{0, 1, 2, 30, 31, 32, 33, 34, 63, 64, 65, 96, 97, 1000} {
		for _, from := range []uint64{0, 1, top - 2*1000} {
			all := counted(n, from)
			wantPoints(t, fmt.Sprintf("P13.1: %d points", n), made(t, all...), all[max(0, n-32):]...)
		}
	}
}

// TestKeptEach holds a series against what should be kept, behind each of many points.
func TestKeptEach(t *testing.T) {
	s := &Series{}
	all := counted(300, 5)
	for i, p := range all {
		adds(t, s, p)
		wantPoints(t, fmt.Sprintf("P13.1: %d points", i+1), s, all[max(0, i-31):i+1]...)
	}
}

// TestKeptSame adds many points of one time, and of one value: none takes another one's place.
func TestKeptSame(t *testing.T) {
	for _, time := range []uint64{0, 3, top} {
		s := &Series{}
		var all []Point
		for i := range 100 {
			p := Point{time, int64(i / 2)}
			adds(t, s, p)
			all = append(all, p)
			wantPoints(t, "P13.1: points of one time", s, all[max(0, i-31):]...)
		}
	}
}

// TestAddRefused: a point that is refused changes nothing, however many there are, and the next one is added as if it had not been.
func TestAddRefused(t *testing.T) {
	for _, n := range []int{1, 2, 31, 32, 33, 70} {
		all := counted(n, 10)
		last := all[n-1].Time
		s := made(t, all...)
		for range 40 {
			wantError(t, "P13.1: Add ahead of the last point", s.Add(last-1, 5), api.ErrOrder)
			wantError(t, "P13.1: Add at 0", s.Add(0, 6), api.ErrOrder)
			wantError(t, "P13.1: Add behind 2^40", s.Add(top+1, 7), api.ErrRange)
			wantPoints(t, "R4: what is refused", s, all[max(0, n-32):]...)
		}
		all = append(all, Point{last, 8})
		adds(t, s, all[n])
		wantPoints(t, "R4: a point behind what is refused", s, all[max(0, n-31):]...)
	}
}

// TestPointsOwn writes over what Points answered, and over its spare capacity: the series has its own points.
func TestPointsOwn(t *testing.T) {
	for _, n := range []int{1, 2, 31, 32, 33, 50} {
		all := counted(n, 0)
		want := all[max(0, n-32):]
		s := made(t, all...)
		kept, got := s.Points(), s.Points()
		got = got[:cap(got)]
		for i := range got {
			got[i] = Point{great, -1}
		}
		wantPoints(t, "R6: what was answered is written over", s, want...)
		if !slices.Equal(kept, want) {
			t.Errorf("R6: two answers share memory: %v", kept)
		}
		_ = append(s.Points(), Point{great, -2})
		adds(t, s, Point{top, 3}, Point{top, 4})
		if !slices.Equal(kept, want) {
			t.Errorf("R6: an answer goes on with its series: %v", kept)
		}
		all = append(all, Point{top, 3}, Point{top, 4})
		wantPoints(t, "R6: points behind an answer", s, all[max(0, len(all)-32):]...)
	}
}
