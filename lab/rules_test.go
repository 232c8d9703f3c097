package lab

import (
	"math"
	"math/rand"
	"slices"
	"strings"
	"testing"

	"watchfire/api"
)

// odd makes a short text of the characters that matter most, mostly not a key nor a value.
func odd(r *rand.Rand) string {
	signs := []string{"a", "b", "z", "A", "0", ".", "_", "-", "=", ",", " ", "\n", "\x00", "é", "\xff", "abcdefgh", "0123456789012345"}
	var b strings.Builder
	for range r.Intn(4) {
		b.WriteString(signs[r.Intn(len(signs))])
	}
	return b.String()
}

// oddPairs makes a list that may have too many pairs, the same keys, keys out of order and texts that can't be.
func oddPairs(r *rand.Rand) []api.Pair {
	n := r.Intn(11)
	l := make([]api.Pair, 0, n+r.Intn(3))
	for range n {
		p := api.Pair{Key: string(rune('a' + r.Intn(12))), Value: string(rune('0' + r.Intn(3)))}
		if r.Intn(12) == 0 {
			p = api.Pair{Key: odd(r), Value: odd(r)}
		}
		l = append(l, p)
	}
	return l
}

// wantMake works Make's answer out in another way: it takes the least pair that is left until there is none, and finds each pair's first fault on the way.
func wantMake(l []api.Pair) ([]api.Pair, api.Errno) {
	if len(l) > 8 {
		return nil, api.ErrMany
	}
	left := slices.Clone(l)
	var out []api.Pair
	for len(left) > 0 {
		least := 0
		for i, p := range left {
			if p.Key < left[least].Key || p.Key == left[least].Key && p.Value < left[least].Value {
				least = i
			}
		}
		p := left[least]
		left = slices.Delete(left, least, least+1)
		if !Key(p.Key) || !Value(p.Value) {
			return nil, api.ErrName
		}
		if len(out) > 0 && out[len(out)-1].Key == p.Key {
			return nil, api.ErrTwice
		}
		out = append(out, p)
	}
	return out, api.OK
}

// TestP1 calls everything with odd arguments: every call ends without a panic, and what it answers agrees with what the others answer.
func TestP1(t *testing.T) {
	r := rand.New(rand.NewSource(1))
	for range 20000 {
		a, b, s := oddPairs(r), oddPairs(r), odd(r)
		Key(s)
		Value(s)
		Name(s)
		Parse(s)
		Get(a, s)
		want, e := wantMake(a)
		got, f := Make(a...)
		if e != f || !Same(got, want) {
			t.Fatalf("P1.1: Make(%v): %v, %d, want %v, %d", a, got, f, want, e)
		}
		if f == api.OK {
			back, e := Parse(Text(a))
			if e != api.OK || !Same(back, got) || Check(got) != api.OK {
				t.Fatalf("P1.2: Parse of the text of %v: %v, %d", a, back, e)
			}
		}
		if Same(a, b) != (Compare(a, b) == 0) || sign3(Compare(a, b)) != -sign3(Compare(b, a)) {
			t.Fatalf("P1.3: Same and Compare of %v and %v", a, b)
		}
		if len(Only(a, "a", s))+len(Without(a, "a", s)) != len(a) {
			t.Fatalf("P1.3: Only and Without of %v", a)
		}
		if m, e := Merge(a, b); e == api.OK && (!Has(m, b) || Check(m) != api.OK) {
			t.Fatalf("P1.3: Merge(%v, %v): %v", a, b, m)
		}
		Has(a, b)
	}
}

func sign3(n int) int {
	return min(max(n, -1), 1)
}

// TestP1Great gives great arguments: every call ends.
func TestP1Great(t *testing.T) {
	l := slices.Repeat(pairs("a", "1", "B", "", "a", "0"), 100000)
	text := strings.Repeat("a", 1<<24)
	if Key(text) || Value(text) || Name(text) {
		t.Error("P1: a great text")
	}
	if Check(l) != api.ErrMany {
		t.Error("P1: Check of many pairs")
	}
	if got, e := Make(l...); e != api.ErrMany || len(got) > 0 {
		t.Error("P1: Make of many pairs")
	}
	if got, e := Merge(pairs("a", "1"), l); e != api.ErrMany || len(got) > 0 {
		t.Error("P1: Merge of many pairs")
	}
	if got, e := Merge(l, pairs("a", "1", "B", "")); e != api.ErrName || len(got) > 0 {
		t.Error("P1: Merge with many pairs")
	}
	if got, e := Parse(text); e != api.ErrLong || len(got) > 0 {
		t.Error("P1: Parse of a great text")
	}
	if len(Text(l)) != 100000*len("a=1,B=,a=0,")-1 {
		t.Error("P1: Text of many pairs")
	}
	if len(Only(l, "B")) != 100000 || len(Without(l, "B")) != 200000 || !Same(l, l) || Compare(l, l) != 0 || !Has(l, l[:2]) {
		t.Error("P1: many pairs")
	}
}

func TestR1(t *testing.T) {
	if n := math.MaxInt; uint64(n) != 1<<63-1 {
		t.Error("R1: int hasn't 64 bits")
	}
}

// TestR3 asks for answers that come beside an error, or beside false, of arguments that have something to give out by mistake.
func TestR3(t *testing.T) {
	lists := [][]api.Pair{many(9), pairs("a", "1", "B", "2"), pairs("a", "1", "b", "2", "b", "3"), pairs("a", "1", "b", "")}
	for _, l := range lists {
		if got, e := Make(l...); e == api.OK || len(got) != 0 {
			t.Errorf("R3: Make(%v): %v, %d", l, got, e)
		}
		if got, e := Parse(Text(l)); e == api.OK || len(got) != 0 {
			t.Errorf("R3: Parse(%v): %v, %d", l, got, e)
		}
		if got, e := Merge(l, nil); e == api.OK || len(got) != 0 {
			t.Errorf("R3: Merge(%v, nil): %v, %d", l, got, e)
		}
		if got, e := Merge(nil, l); e == api.OK || len(got) != 0 {
			t.Errorf("R3: Merge(nil, %v): %v, %d", l, got, e)
		}
		if v, ok := Get(l, "q"); v != "" || ok {
			t.Errorf("R3: Get(%v): %q", l, v)
		}
	}
	if got, e := Parse("a=1,b=2,c"); e == api.OK || len(got) != 0 {
		t.Errorf("R3: Parse beside ErrForm: %v, %d", got, e)
	}
}

// TestR4 asks for errors: what was handed in is as it was.
func TestR4(t *testing.T) {
	for _, l := range [][]api.Pair{backwards(many(9)), pairs("c", "1", "b", "2", "b", "1"), pairs("c", "1", "B", "2", "a", "")} {
		whole, part := roomy(l)
		old := slices.Clone(whole)
		_, e := Make(part...)
		_, f := Merge(part, part)
		_, g := Merge(nil, part)
		if e == api.OK || f == api.OK || g == api.OK || Check(part) == api.OK {
			t.Errorf("P1.1, P1.3: no error for %v", part)
		}
		if !slices.Equal(whole, old) {
			t.Errorf("R4: %v is changed beside an error", l)
		}
	}
}

func TestR5(t *testing.T) {
	none, empty := []api.Pair(nil), []api.Pair{}
	for _, l := range [][]api.Pair{none, empty} {
		got, e := Make(l...)
		v, ok := Get(l, "a")
		if Check(l) != api.OK || len(got) != 0 || e != api.OK || v != "" || ok || Text(l) != "" {
			t.Error("R5: an empty list of pairs")
		}
		if len(Only(l, "a")) != 0 || len(Without(l, "a")) != 0 || !Has(many(2), l) || Has(l, many(1)) {
			t.Error("R5: an empty list of pairs")
		}
		for _, m := range [][]api.Pair{none, empty} {
			got, e := Merge(l, m)
			if len(got) != 0 || e != api.OK || !Same(l, m) || Compare(l, m) != 0 || !Has(l, m) {
				t.Error("R5: two empty lists of pairs")
			}
		}
	}
	for _, keys := range [][]string{nil, {}} {
		if len(Only(many(2), keys...)) != 0 || len(Without(many(2), keys...)) != 2 {
			t.Error("R5: an empty list of keys")
		}
	}
}

// roomy lays pairs into a greater list, so that a write beside the list, or a list that shares its memory, can be seen.
func roomy(l []api.Pair) (whole, part []api.Pair) {
	mark := api.Pair{Key: "mark", Value: "mark"}
	whole = append([]api.Pair{mark, mark}, l...)
	whole = append(whole, slices.Repeat([]api.Pair{mark}, 12)...)
	return whole, whole[2 : 2+len(l)]
}

// TestR6 calls everything that takes and answers lists: arguments stay as they were, their spare capacity too, and answers stay as they are when the arguments are overwritten, and the other way round.
func TestR6(t *testing.T) {
	first, second := pairs("c", "1", "a", "2", "b", "3"), pairs("e", "4", "b", "5")
	calls := []struct {
		name string
		call func(a, b []api.Pair, keys []string) []api.Pair
		want string
	}{
		{"Make", func(a, b []api.Pair, keys []string) []api.Pair { l, _ := Make(a...); return l }, "a=2,b=3,c=1"},
		{"Merge", func(a, b []api.Pair, keys []string) []api.Pair { l, _ := Merge(a, b); return l }, "a=2,b=5,c=1,e=4"},
		{"Merge with nothing ahead", func(a, b []api.Pair, keys []string) []api.Pair { l, _ := Merge(nil, b); return l }, "b=5,e=4"},
		{"Merge with nothing behind", func(a, b []api.Pair, keys []string) []api.Pair { l, _ := Merge(a, nil); return l }, "a=2,b=3,c=1"},
		{"Only", func(a, b []api.Pair, keys []string) []api.Pair { return Only(a, keys...) }, "c=1,a=2"},
		{"Only, all of them", func(a, b []api.Pair, keys []string) []api.Pair { return Only(b, "e", "b") }, "e=4,b=5"},
		{"Without", func(a, b []api.Pair, keys []string) []api.Pair { return Without(a, keys...) }, "b=3"},
		{"Without, none of them", func(a, b []api.Pair, keys []string) []api.Pair { return Without(a) }, "c=1,a=2,b=3"},
		{"all others", func(a, b []api.Pair, keys []string) []api.Pair {
			Check(a)
			Get(a, "a")
			Text(a)
			Same(a, b)
			Compare(a, b)
			Has(a, b)
			return nil
		}, ""},
	}
	for _, c := range calls {
		wholeA, a := roomy(first)
		wholeB, b := roomy(second)
		allKeys := []string{"c", "a", "mark", "mark"}
		oldA, oldB, oldKeys := slices.Clone(wholeA), slices.Clone(wholeB), slices.Clone(allKeys)
		got := c.call(a, b, allKeys[:2])
		if !slices.Equal(wholeA, oldA) || !slices.Equal(wholeB, oldB) || !slices.Equal(allKeys, oldKeys) {
			t.Errorf("R6: %s changed an argument", c.name)
		}
		clear(wholeA)
		clear(wholeB)
		clear(allKeys)
		if Text(got) != c.want {
			t.Errorf("R6: %s: %q, want %q", c.name, Text(got), c.want)
		}
		got = got[:cap(got)]
		for i := range got {
			got[i] = api.Pair{Key: "over", Value: "over"}
		}
		if !zero(wholeA) || !zero(wholeB) {
			t.Errorf("R6: %s answers an argument's memory", c.name)
		}
	}
}

func zero(l []api.Pair) bool {
	return !slices.ContainsFunc(l, func(p api.Pair) bool { return p != api.Pair{} })
}

// TestR8 asks twice, with other calls between: the answers are the same.
func TestR8(t *testing.T) {
	ask := func() string {
		a, e := Parse("c=3,a=1,b=2")
		b, f := Make(pairs("d", "4", "b", "5")...)
		m, g := Merge(a, b)
		return strings.Join([]string{Text(a), Text(b), Text(m), Text(Only(m, "a", "b")), Text(Without(m, "a")), string(rune('0' + e + f + g))}, " ")
	}
	first := ask()
	if first != "a=1,b=2,c=3 b=5,d=4 a=1,b=5,c=3,d=4 a=1,b=5 b=5,c=3,d=4 0" {
		t.Errorf("R8: %s", first)
	}
	Parse("z=9,y")
	Make(many(9)...)
	if second := ask(); second != first {
		t.Errorf("R8: %s, and then %s", first, second)
	}
}
