package cond

import (
	"slices"

	"watchfire/api"
)

// kept is how many points of a series are kept.
const kept = 32

// Point is a value, and the time at which it came.
type Point struct {
	Time  uint64
	Value int64
}

// within reports whether the point is at most so many ticks before now, or after it.
func (p Point) within(ticks, now uint64) bool {
	return p.Time >= now || now-p.Time <= ticks
}

// Series is the last points of a time series, in the order of their times: as many as there are, from the array's start on.
// The zero Series has no points.
type Series struct {
	points [kept]Point
	many   int
}

// Add appends a point, which may be of the last point's time, but not ahead of it. The first point goes if there are too many.
func (s *Series) Add(now uint64, value int64) api.Errno {
	if s == nil {
		return api.ErrNil
	}
	if now > api.MaxNumber {
		return api.ErrRange
	}
	if last, found := s.Last(); found && last.Time > now {
		return api.ErrOrder
	}
	if s.many == kept {
		copy(s.points[:], s.points[1:])
		s.many--
	}
	s.points[s.many] = Point{Time: now, Value: value}
	s.many++
	return api.OK
}

// Last returns the last point, and true, or false if there is none.
func (s *Series) Last() (Point, bool) {
	if s == nil || s.many == 0 {
		return Point{}, false
	}
	return s.points[s.many-1], true
}

// Points returns all points that are kept, in order.
func (s *Series) Points() []Point {
	if s == nil {
		return nil
	}
	return slices.Clone(s.points[:s.many])
}

// some reports whether there is a point of which asked holds.
func (s *Series) some(asked func(p Point) bool) bool {
	return slices.ContainsFunc(s.points[:s.many], asked)
}
