package cond

import (
	"math"
	"math/rand"
	"slices"
	"strings"
	"testing"

	"watchfire/api"
)

// odd makes a short text of the signs that matter most.
func odd(r *rand.Rand) string {
	var b strings.Builder
	for range r.Intn(4) {
		b.WriteString(some(r, "0", "1", "9", "-", "+", " ", "_", "x", "\x00", "\xff", "é", "922337203685477580", "above", "rises"))
	}
	return b.String()
}

// TestP1 calls everything with odd arguments: every call ends without a panic, and what it answers agrees with what the others answer.
func TestP1(t *testing.T) {
	r := rand.New(rand.NewSource(2))
	s := &Series{}
	for range 50000 {
		first := some(r, "above", "below", "absent", "rises", "falls", odd(r))
		words := []string{first, odd(r), some(r, odd(r), "1", "0"), odd(r)}[:r.Intn(5)]
		c, e := Parse(words...)
		if e != api.OK && c != (Cond{}) || e == api.OK && (c.Check() != api.OK || c.Text() != strings.Join(words, " ")) {
			t.Fatalf("P13.3: Parse(%q): %v, %d", words, c, e)
		}
		text, most := odd(r), r.Uint64()>>r.Intn(64)
		n, ok := Number(text, most)
		if signed, is := Signed(text); ok && n <= math.MaxInt64 && (signed != int64(n) || !is) || ok && n > most {
			t.Fatalf("P13.3: %q as a number: %d; with a sign: %d, %v", text, n, signed, is)
		}
		c = Cond{Kind(r.Intn(256)), int64(r.Uint64()), r.Uint64() >> r.Intn(64)}
		if r.Intn(2) == 0 {
			c.Kind = Kind(r.Intn(7))
		}
		c.Check()
		c.Text()
		s.Add(r.Uint64()>>r.Intn(64), int64(r.Uint64()))
		last, found := s.Last()
		if _, value := c.Holds(s, r.Uint64()>>r.Intn(64)); value != last.Value {
			t.Fatalf("P13.2: Holds of %v: %d, where %v, %v is the last point", c, value, last, found)
		}
		if r.Intn(100) == 0 {
			s = &Series{}
		}
	}
}

// TestP1Great gives great arguments: every call ends.
func TestP1Great(t *testing.T) {
	for _, s := range []string{strings.Repeat("1", 1<<24), "-" + strings.Repeat("0", 1<<24), strings.Repeat("-", 1<<24)} {
		wantNumber(t, s, great, 0, false)
		wantSigned(t, s, 0, false)
		wantParse(t, []string{s}, Cond{}, api.ErrForm)
		wantParse(t, []string{"above", s}, Cond{}, api.ErrWord)
		wantParse(t, []string{"rises", "1", s}, Cond{}, api.ErrWord)
	}
	s := &Series{}
	for i := range 200000 {
		adds(t, s, Point{uint64(i), int64(i)})
	}
	if l := s.Points(); len(l) != 32 || l[0] != (Point{199968, 199968}) || l[31] != (Point{199999, 199999}) {
		t.Errorf("P13.1: behind many points: %v", l)
	}
}

// TestR3: beside an error, or beside false, there is nothing, but for the value beside Holds.
func TestR3(t *testing.T) {
	for _, words := range []string{"", "above", "above x", "rises 3 x", "rises -3 5", "falls 3 0", "falls 3 1048577", "absent 0", "absent 1048577", "is 5"} {
		if c, e := Parse(strings.Fields(words)...); c != (Cond{}) || e == api.OK {
			t.Errorf("R3: Parse of %q: %v, %d", words, c, e)
		}
	}
	for _, s := range []string{"12x", "123456789012345678901", "-5", "05"} {
		wantNumber(t, s, great, 0, false)
	}
	wantNumber(t, "12", 11, 0, false)
	for _, s := range []string{"9223372036854775808", "-9223372036854775809", "-12x", "-012", "-0"} {
		wantSigned(t, s, 0, false)
	}
	wantPoints(t, "R3: no point", &Series{})
	for k := Above; k <= Falls; k++ {
		wantHolds(t, Cond{k, 1, 1}, &Series{}, 7, false, 0)
	}
	wantHolds(t, Cond{Above, 9, 0}, made(t, Point{1, 4}), 1, false, 4)
	wantHolds(t, Cond{Absent, 0, 9}, made(t, Point{1, 4}), 1, false, 4)
}

// TestR5: no words are nil words, and an empty list.
func TestR5(t *testing.T) {
	for _, words := range [][]string{nil, {}} {
		wantParse(t, words, Cond{}, api.ErrForm)
	}
}

// TestR6: Parse leaves its words, and what is behind them, as they are, and keeps none of them; Holds leaves its series.
func TestR6(t *testing.T) {
	for _, given := range []string{"above 5 a b", "rises 3 5 a", "rises 3 x a", "falls -3 5 a", "is a b c", "absent 0 a b"} {
		whole := strings.Fields(given)
		for n := range len(whole) + 1 {
			words := whole[:n]
			was := slices.Clone(whole)
			c, e := Parse(words...)
			if !slices.Equal(whole, was) {
				t.Errorf("R6: Parse changes %q into %q", was, whole)
			}
			for i := range whole {
				whole[i] = "falls"
			}
			if d, f := Parse(was[:n]...); c != d || e != f {
				t.Errorf("R6: Parse of %q: %v, %d, and then %v, %d", was[:n], c, e, d, f)
			}
			copy(whole, was)
		}
	}
	l := counted(40, 0)
	s := made(t, l...)
	was := *s
	for _, c := range valid() {
		for _, now := range times() {
			c.Holds(s, now)
		}
	}
	if *s != was {
		t.Errorf("R6: Holds changes a series")
	}
	wantPoints(t, "R6: Holds", s, l[8:]...)
}

// TestR7: a nil series does nothing.
func TestR7(t *testing.T) {
	var s *Series
	for range 2 {
		for _, now := range times() {
			wantError(t, "R7: Add of a nil series", s.Add(now, 5), api.ErrNil)
			for k := range 256 {
				wantHolds(t, Cond{Kind(k), 0, 1}, s, now, false, 0)
				wantHolds(t, Cond{Kind(k), least, 0}, s, now, false, 0)
			}
		}
		if p, found := s.Last(); p != (Point{}) || found {
			t.Errorf("R7: Last of a nil series: %v, %v", p, found)
		}
		if l := s.Points(); len(l) != 0 {
			t.Errorf("R7: Points of a nil series: %v", l)
		}
	}
}

// TestR8: the same calls have the same answers, whatever is asked of other series between them.
func TestR8(t *testing.T) {
	for seed := range int64(50) {
		var all []*rand.Rand
		for _, seed := range []int64{seed, seed, seed + 1000} {
			all = append(all, rand.New(rand.NewSource(seed)))
		}
		those := []*Series{{}, {}, {}}
		for n := range 100 {
			var answers [3]struct {
				e     api.Errno
				c     Cond
				holds bool
				value int64
			}
			for i, r := range all {
				a := &answers[i]
				a.e = those[i].Add(uint64(n/2+r.Intn(3)), int64(r.Intn(9)))
				a.c = someCond(r)
				a.holds, a.value = a.c.Holds(those[i], uint64(r.Intn(80)))
			}
			if answers[0] != answers[1] || !slices.Equal(those[0].Points(), those[1].Points()) {
				t.Fatalf("R8: the same calls: %v and %v", answers[0], answers[1])
			}
		}
	}
}
