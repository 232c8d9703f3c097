package lab

import (
	"slices"
	"strings"
	"testing"

	"watchfire/api"
)

// pairs makes a list of keys and values that follow one another; they need not be labels.
func pairs(words ...string) []api.Pair {
	var l []api.Pair
	for i := 0; i+1 < len(words); i += 2 {
		l = append(l, api.Pair{Key: words[i], Value: words[i+1]})
	}
	return l
}

// many makes n pairs with rising keys.
func many(n int) []api.Pair {
	var l []api.Pair
	for i := range n {
		l = append(l, api.Pair{Key: string(rune('a' + i)), Value: "1"})
	}
	return l
}

func TestKey(t *testing.T) {
	for _, s := range []string{"a", "z", "host", "abcdefgh", "zzzzzzzz"} {
		if !Key(s) {
			t.Errorf("P1.1: Key(%q) is false", s)
		}
	}
	for _, s := range []string{"", "abcdefghi", "a1", "1a", "A", "aB", "a.b", "a_", "-a", " a", "a ", "a\n", "a=", "a,b", "`", "{", "é", "aé", "ａ", "a\x00", "\xff", "a\xe2\x82", strings.Repeat("a", 1<<20)} {
		if Key(s) {
			t.Errorf("P1.1: Key(%q) is true", s)
		}
	}
}

func TestValue(t *testing.T) {
	for _, s := range []string{"a", "z", "0", "9", ".", "_", "-", "10.0.0.1", "1a", "-1", "abcdefghijklmnop", "0123456789._-az."} {
		if !Value(s) {
			t.Errorf("P1.1: Value(%q) is false", s)
		}
	}
	for _, s := range []string{"", "abcdefghijklmnopq", "A", "aZ", "a b", "a=b", "a,b", "a/b", "a:b", "`", "{", "+", "é", "٣", "a\x00", "\xff", "a\xe2\x82", strings.Repeat("1", 1<<20)} {
		if Value(s) {
			t.Errorf("P1.1: Value(%q) is true", s)
		}
	}
}

func TestName(t *testing.T) {
	for _, s := range []string{"a", "z", "hot", "a1", "own.evicted", "a.b_c-d", "a-----------", "abcdefghijkl"} {
		if !Name(s) {
			t.Errorf("P1.1: Name(%q) is false", s)
		}
	}
	for _, s := range []string{"", "abcdefghijklm", "1a", "0", ".a", "_a", "-a", "A", "aB", "a b", "a=", "é", "aé", "a\xff", "\xffa", strings.Repeat("a", 16)} {
		if Name(s) {
			t.Errorf("P1.1: Name(%q) is true", s)
		}
	}
}

// TestEveryCharacter asks about each rune of the first planes, and each byte, alone and behind a letter.
func TestEveryCharacter(t *testing.T) {
	ask := func(s string, low, other bool) {
		if Key(s) != low || Key("a"+s) != low {
			t.Errorf("P1.1: Key of %q, alone or behind a letter, isn't %v", s, low)
		}
		if Value(s) != (low || other) || Value("a"+s) != (low || other) {
			t.Errorf("P1.1: Value of %q, alone or behind a letter, isn't %v", s, low || other)
		}
		if Name(s) != low || Name("a"+s) != (low || other) {
			t.Errorf("P1.1: Name of %q, alone or behind a letter, isn't right", s)
		}
	}
	for r := rune(0); r < 0x20000; r++ {
		s := string(r)
		ask(s, len(s) == 1 && strings.Contains("abcdefghijklmnopqrstuvwxyz", s), len(s) == 1 && strings.Contains("0123456789._-", s))
	}
	for b := 0x80; b < 0x100; b++ {
		ask(string([]byte{byte(b)}), false, false)
	}
}

func TestLengths(t *testing.T) {
	for n := range 20 {
		s := strings.Repeat("a", n)
		if Key(s) != (n >= 1 && n <= 8) || Value(s) != (n >= 1 && n <= 16) || Name(s) != (n >= 1 && n <= 12) {
			t.Errorf("P1.1: a text of %d letters", n)
		}
	}
}

func TestCheck(t *testing.T) {
	for _, c := range []struct {
		about string
		l     []api.Pair
		want  api.Errno
	}{
		{"no labels", nil, api.OK},
		{"an empty list", []api.Pair{}, api.OK},
		{"one", pairs("a", "1"), api.OK},
		{"rising keys", pairs("a", "2", "b", "1"), api.OK},
		{"a prefix first", pairs("a", "1", "aa", "1"), api.OK},
		{"eight", many(8), api.OK},
		{"nine", many(9), api.ErrMany},
		{"nine with a bad one first", append(pairs("A", "1"), many(8)...), api.ErrMany},
		{"nine equal ones", slices.Repeat(pairs("a", "1"), 9), api.ErrMany},
		{"a bad key", pairs("A", "1"), api.ErrName},
		{"no key", pairs("", "1"), api.ErrName},
		{"a long key", pairs("abcdefghi", "1"), api.ErrName},
		{"a bad value", pairs("a", "X"), api.ErrName},
		{"no value", pairs("a", ""), api.ErrName},
		{"a long value", pairs("a", strings.Repeat("1", 17)), api.ErrName},
		{"the same key", pairs("a", "1", "a", "2"), api.ErrTwice},
		{"the same pair", pairs("a", "1", "a", "1"), api.ErrTwice},
		{"the same key, greater value first", pairs("a", "2", "a", "1"), api.ErrTwice},
		{"falling keys", pairs("b", "1", "a", "1"), api.ErrOrder},
		{"a prefix behind", pairs("aa", "1", "a", "1"), api.ErrOrder},
		{"the same key, not adjacent", pairs("a", "1", "b", "1", "a", "1"), api.ErrOrder},
		{"the last two alike", append(many(7), pairs("g", "1")...), api.ErrTwice},
		{"R2: a bad value before the same key", pairs("a", "1", "a", ""), api.ErrName},
		{"R2: a bad key before the order", pairs("b", "1", "A", "1"), api.ErrName},
		{"R2: an earlier pair's order before a later one's name", pairs("b", "1", "a", "1", "c", ""), api.ErrOrder},
		{"R2: an earlier pair's twice before a later one's order", pairs("b", "1", "b", "1", "a", "1"), api.ErrTwice},
		{"R2: an earlier pair's order before a later one's twice", pairs("b", "1", "a", "1", "a", "1"), api.ErrOrder},
	} {
		if e := Check(c.l); e != c.want {
			t.Errorf("P1.1: Check of %s: %d, want %d", c.about, e, c.want)
		}
	}
}

func TestMake(t *testing.T) {
	for _, c := range []struct {
		about string
		l     []api.Pair
		want  []api.Pair
		e     api.Errno
	}{
		{"none", nil, nil, api.OK},
		{"sorted ones", pairs("a", "1", "b", "2"), pairs("a", "1", "b", "2"), api.OK},
		{"falling ones", pairs("b", "1", "a", "2"), pairs("a", "2", "b", "1"), api.OK},
		{"a prefix behind", pairs("ab", "1", "b", "1", "a", "1"), pairs("a", "1", "ab", "1", "b", "1"), api.OK},
		{"eight falling ones", backwards(many(8)), many(8), api.OK},
		{"nine", many(9), nil, api.ErrMany},
		{"nine bad ones", slices.Repeat(pairs("A", ""), 9), nil, api.ErrMany},
		{"the same key", pairs("a", "x", "a", "y"), nil, api.ErrTwice},
		{"the same key, not adjacent", pairs("a", "x", "b", "1", "a", "x"), nil, api.ErrTwice},
		{"a bad key", pairs("a", "1", "B", "1"), nil, api.ErrName},
		{"a bad value", pairs("a", "1", "b", "x y"), nil, api.ErrName},
		{"a bad pair that sorts before the same keys", pairs("a", "1", "a", "2", "B", "1"), nil, api.ErrName},
		{"a bad pair that sorts behind the same keys", pairs("z", "", "a", "1", "a", "2"), nil, api.ErrTwice},
		{"a bad value that sorts first among the same keys", pairs("a", "1", "a", ""), nil, api.ErrName},
	} {
		got, e := Make(c.l...)
		if e != c.e || !slices.Equal(got, c.want) {
			t.Errorf("P1.1: Make of %s: %v, %d, want %v, %d", c.about, got, e, c.want, c.e)
		}
	}
	if got, e := Make(api.Pair{Key: "b", Value: "1"}, api.Pair{Key: "a", Value: "1"}); e != api.OK || Text(got) != "a=1,b=1" {
		t.Errorf("P1.1: Make of pairs one by one: %v, %d", got, e)
	}
}

func backwards(l []api.Pair) []api.Pair {
	slices.Reverse(l)
	return l
}

func TestGet(t *testing.T) {
	l := pairs("b", "2", "a", "1", "b", "3", "", "none", "c", "")
	for _, c := range []struct {
		key, value string
		ok         bool
	}{{"a", "1", true}, {"b", "2", true}, {"", "none", true}, {"c", "", true}, {"d", "", false}, {"A", "", false}} {
		if v, ok := Get(l, c.key); v != c.value || ok != c.ok {
			t.Errorf("P1.1: Get of %q: %q, %v", c.key, v, ok)
		}
	}
	if v, ok := Get(nil, ""); v != "" || ok {
		t.Error("P1.1: Get finds something in nothing")
	}
}

func TestText(t *testing.T) {
	for _, c := range []struct {
		l    []api.Pair
		want string
	}{
		{nil, ""},
		{pairs("a", "1"), "a=1"},
		{pairs("a", "1", "b", "2", "c", "3"), "a=1,b=2,c=3"},
		{pairs("b", "1", "a", "2"), "b=1,a=2"},
		{pairs("", ""), "="},
		{pairs("", "", "", ""), "=,="},
		{pairs("A", "x y", "A", "=,"), "A=x y,A==,"},
	} {
		if got := Text(c.l); got != c.want {
			t.Errorf("P1.2: Text of %v: %q, want %q", c.l, got, c.want)
		}
	}
	if got := Text(many(9)); got != "a=1,b=1,c=1,d=1,e=1,f=1,g=1,h=1,i=1" {
		t.Errorf("P1.2: Text of nine pairs: %q", got)
	}
}

func TestParse(t *testing.T) {
	eight := Text(many(8))
	for _, c := range []struct {
		s    string
		want []api.Pair
		e    api.Errno
	}{
		{"", nil, api.OK},
		{"b=2,a=1", pairs("a", "1", "b", "2"), api.OK},
		{"host=a,job=web", pairs("host", "a", "job", "web"), api.OK},
		{"abcdefgh=0123456789._-xyz", pairs("abcdefgh", "0123456789._-xyz"), api.OK},
		{eight, many(8), api.OK},
		{"a", nil, api.ErrForm},
		{",", nil, api.ErrForm},
		{"a=1,", nil, api.ErrForm},
		{",a=1", nil, api.ErrForm},
		{"a=1,,b=1", nil, api.ErrForm},
		{"a=1;b=2,c", nil, api.ErrForm},
		{" ", nil, api.ErrForm},
		{"A=1,b", nil, api.ErrForm},
		{"a=1,a=1,b", nil, api.ErrForm},
		{eight + ",i=1", nil, api.ErrMany},
		{eight + ",i", nil, api.ErrForm},
		{eight + ",", nil, api.ErrForm},
		{eight + ",i=1,j", nil, api.ErrMany},
		{eight + ",a=1", nil, api.ErrMany},
		{strings.Repeat("=,", 8) + "=", nil, api.ErrMany},
		{"=", nil, api.ErrName},
		{"=1", nil, api.ErrName},
		{"a=", nil, api.ErrName},
		{"a=b=c", nil, api.ErrName},
		{"a==", nil, api.ErrName},
		{"a=1, b=1", nil, api.ErrName},
		{"a =1", nil, api.ErrName},
		{"a=1\n", nil, api.ErrName},
		{"a=\xff", nil, api.ErrName},
		{"abcdefghi=1", nil, api.ErrName},
		{"a=0123456789._-wxyz", nil, api.ErrName},
		{"a=1,a=2", nil, api.ErrTwice},
		{"b=1,a=2,b=1", nil, api.ErrTwice},
		{"a=1,a=2,b=", nil, api.ErrTwice},
		{"a=1,a=2,B=1", nil, api.ErrName},
		{"a=a,a=b,a==1", nil, api.ErrName},
	} {
		got, e := Parse(c.s)
		if e != c.e || !slices.Equal(got, c.want) {
			t.Errorf("P1.2: Parse(%q): %v, %d, want %v, %d", c.s, got, e, c.want, c.e)
		}
	}
}

func TestParseLength(t *testing.T) {
	for _, c := range []struct {
		about, s string
		want     api.Errno
	}{
		{"the longest text", "a=" + strings.Repeat("1", api.MaxBytes-2), api.ErrName},
		{"a byte more", "a=" + strings.Repeat("1", api.MaxBytes-1), api.ErrLong},
		{"the longest text without =", strings.Repeat("a", api.MaxBytes), api.ErrForm},
		{"a byte more", strings.Repeat("a", api.MaxBytes+1), api.ErrLong},
		{"the longest text of bytes that are half a character", strings.Repeat("é", api.MaxBytes/2), api.ErrForm},
		{"a byte more", strings.Repeat("é", api.MaxBytes/2) + "a", api.ErrLong},
		{"commas", strings.Repeat(",", api.MaxBytes), api.ErrForm},
		{"nine parts, too long", Text(many(9)) + strings.Repeat("1", api.MaxBytes), api.ErrLong},
		{"a great text", strings.Repeat("a=1,", 1<<20), api.ErrLong},
	} {
		if got, e := Parse(c.s); e != c.want || len(got) > 0 {
			t.Errorf("P1.2: Parse of %s: %d, want %d", c.about, e, c.want)
		}
	}
}

func TestSame(t *testing.T) {
	for _, c := range []struct {
		a, b []api.Pair
		want bool
	}{
		{nil, nil, true},
		{nil, []api.Pair{}, true},
		{[]api.Pair{}, nil, true},
		{pairs("a", "1"), pairs("a", "1"), true},
		{pairs("a", "1"), pairs("a", "2"), false},
		{pairs("a", "1"), pairs("b", "1"), false},
		{pairs("a", "1"), nil, false},
		{nil, pairs("a", "1"), false},
		{pairs("a", "1"), pairs("a", "1", "b", "1"), false},
		{pairs("a", "1", "b", "1"), pairs("a", "1", "b", "2"), false},
		{pairs("a", "1", "b", "1"), pairs("b", "1", "a", "1"), false},
		{pairs("A", "x y"), pairs("A", "x y"), true},
		{pairs("ab", "c"), pairs("a", "bc"), false},
		{pairs("", ""), nil, false},
		{pairs("a", "1,b=2"), pairs("a", "1", "b", "2"), false},
	} {
		if Same(c.a, c.b) != c.want {
			t.Errorf("P1.3: Same(%v, %v) isn't %v", c.a, c.b, c.want)
		}
	}
}

func TestCompare(t *testing.T) {
	rising := [][]api.Pair{
		nil,
		pairs("", ""),
		pairs("", "z"),
		pairs("A", "1"),
		pairs("a", ""),
		pairs("a", "-"),
		pairs("a", "1"),
		pairs("a", "1", "a", "0"),
		pairs("a", "1", "b", "2"),
		pairs("a", "1", "b", "2", "c", "3"),
		pairs("a", "1", "b", "3"),
		pairs("a", "1", "c", "0"),
		pairs("a", "1!"),
		pairs("a", "10"),
		pairs("a", "2"),
		pairs("a", "z"),
		pairs("aa", "0"),
		pairs("ab", "0"),
		pairs("b", "0"),
		pairs("b", "0", "a", "0"),
		pairs("é", "0"),
		pairs("\xff", "0"),
	}
	for i, a := range rising {
		for j, b := range rising {
			got := Compare(a, b)
			if (got < 0) != (i < j) || (got > 0) != (i > j) {
				t.Errorf("P1.3: Compare(%v, %v): %d", a, b, got)
			}
		}
	}
	if Compare(nil, []api.Pair{}) != 0 || Compare([]api.Pair{}, nil) != 0 {
		t.Error("R5: Compare of empty lists")
	}
}

func TestOnlyAndWithout(t *testing.T) {
	l := pairs("a", "1", "b", "2", "c", "3")
	odd := pairs("b", "1", "a", "2", "b", "3", "", "x")
	for _, c := range []struct {
		l             []api.Pair
		keys          []string
		only, without string
	}{
		{l, []string{"b"}, "b=2", "a=1,c=3"},
		{l, []string{"c", "a"}, "a=1,c=3", "b=2"},
		{l, []string{"a", "a"}, "a=1", "b=2,c=3"},
		{l, []string{"a", "b", "c", "d"}, "a=1,b=2,c=3", ""},
		{l, []string{"d", "", "A", "1"}, "", "a=1,b=2,c=3"},
		{l, nil, "", "a=1,b=2,c=3"},
		{nil, []string{"a"}, "", ""},
		{nil, nil, "", ""},
		{odd, []string{"b"}, "b=1,b=3", "a=2,=x"},
		{odd, []string{""}, "=x", "b=1,a=2,b=3"},
		{many(12), []string{"l", "a"}, "a=1,l=1", Text(many(11)[1:])},
	} {
		if got := Text(Only(c.l, c.keys...)); got != c.only {
			t.Errorf("P1.3: Only(%v, %v): %q, want %q", c.l, c.keys, got, c.only)
		}
		if got := Text(Without(c.l, c.keys...)); got != c.without {
			t.Errorf("P1.3: Without(%v, %v): %q, want %q", c.l, c.keys, got, c.without)
		}
	}
}

func TestMerge(t *testing.T) {
	for _, c := range []struct {
		about string
		a, b  []api.Pair
		want  []api.Pair
		e     api.Errno
	}{
		{"nothing", nil, nil, nil, api.OK},
		{"nothing behind", pairs("a", "1"), nil, pairs("a", "1"), api.OK},
		{"nothing ahead", nil, pairs("a", "1"), pairs("a", "1"), api.OK},
		{"other keys", pairs("b", "1"), pairs("a", "2", "c", "3"), pairs("a", "2", "b", "1", "c", "3"), api.OK},
		{"a key in both", pairs("a", "1", "b", "2"), pairs("b", "9"), pairs("a", "1", "b", "9"), api.OK},
		{"a lesser value in the second", pairs("a", "9"), pairs("a", "1"), pairs("a", "1"), api.OK},
		{"all keys in both", many(8), many(8), many(8), api.OK},
		{"unsorted ones", pairs("d", "1", "b", "1"), pairs("c", "1", "a", "1"), pairs("a", "1", "b", "1", "c", "1", "d", "1"), api.OK},
		{"a bad pair that is replaced", pairs("a", "X"), pairs("a", "1"), pairs("a", "1"), api.OK},
		{"a key twice in the first that is replaced", pairs("a", "1", "a", "2"), pairs("a", "3"), pairs("a", "3"), api.OK},
		{"nine that become eight", many(9), pairs("h", "2"), nil, api.ErrMany},
		{"nine in all", many(8), pairs("i", "1"), nil, api.ErrMany},
		{"nine alike that become one", slices.Repeat(pairs("a", "1"), 9), pairs("a", "2"), pairs("a", "2"), api.OK},
		{"nine in the second", nil, many(9), nil, api.ErrMany},
		{"a bad pair ahead", pairs("A", "1"), pairs("a", "1"), nil, api.ErrName},
		{"a bad pair behind", pairs("a", "1"), pairs("a", ""), nil, api.ErrName},
		{"a key twice ahead", pairs("a", "1", "a", "2"), pairs("b", "1"), nil, api.ErrTwice},
		{"a key twice behind", pairs("a", "1"), pairs("a", "1", "a", "2"), nil, api.ErrTwice},
	} {
		got, e := Merge(c.a, c.b)
		if e != c.e || !slices.Equal(got, c.want) {
			t.Errorf("P1.3: Merge of %s: %v, %d, want %v, %d", c.about, got, e, c.want, c.e)
		}
	}
}

func TestHas(t *testing.T) {
	l := pairs("a", "1", "b", "2", "b", "3", "c", "")
	for _, c := range []struct {
		some []api.Pair
		want bool
	}{
		{nil, true},
		{[]api.Pair{}, true},
		{pairs("a", "1"), true},
		{pairs("b", "2", "a", "1"), true},
		{pairs("a", "1", "a", "1"), true},
		{pairs("c", ""), true},
		{pairs("b", "3"), false},
		{pairs("a", "2"), false},
		{pairs("a", ""), false},
		{pairs("d", "1"), false},
		{pairs("d", ""), false},
		{pairs("a", "1", "d", "1"), false},
		{pairs("d", "1", "a", "1"), false},
	} {
		if Has(l, c.some) != c.want {
			t.Errorf("P1.3: Has(%v) isn't %v", c.some, c.want)
		}
	}
	if !Has(nil, nil) || Has(nil, pairs("a", "1")) || Has(nil, pairs("a", "")) {
		t.Error("P1.3: Has of no labels")
	}
}
