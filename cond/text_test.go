package cond

import (
	"fmt"
	"math"
	"math/big"
	"strings"
	"testing"

	"watchfire/api"
)

// mosts are bounds of numbers.
func mosts() []uint64 {
	return []uint64{0, 1, 5, 9, 10, 1048576, 1 << 40, greatest - 1, greatest, 1 << 63, 9999999999999999999, great - 1, great}
}

// notNumbers are texts that are no numbers, whatever the bound.
func notNumbers() []string {
	return []string{"", " ", "-", "+", "--1", "-+1", "+1", "+0", "-1", "-0", " 1", "1 ", "1 2", "\t1", "1\n", "1\x00", "\x001", "a", "1a", "a1", "0x1", "0b1", "0o7", "x", "1_0", "1,0", "1.0", "1.", ".1", "1e3", "1-", "1+",
		"00", "01", "007", "0000000000000000001", "00000000000000000001", "0-", "٣", "１", "1٣", "é", "\xff", "1\xff", "¹", "½", "∞", "nan", "inf", "/", ":", "1/", "1:", ";", "９"}
}

// longNumbers have twenty digits or more.
func longNumbers() []string {
	return []string{"10000000000000000000", "18446744073709551614", "18446744073709551615", "18446744073709551616", "18446744073709551617", "36893488147419103232", "99999999999999999999", "100000000000000000000", "10000000000000000000000000000000000000000",
		strings.Repeat("0", 20), strings.Repeat("1", 64), strings.Repeat("9", 1000)}
}

// wantNumber holds Number's answer against what it should be.
func wantNumber(t *testing.T, s string, most uint64, want uint64, ok bool) {
	t.Helper()
	if got, is := Number(s, most); got != want || is != ok {
		t.Errorf("P13.3: Number(%q, %d): %d, %v, want %d, %v", s, most, got, is, want, ok)
	}
}

// TestNumber parses numbers below, at and above a bound.
func TestNumber(t *testing.T) {
	for _, c := range []struct {
		s string
		n uint64
	}{
		{"0", 0},
		{"1", 1},
		{"2", 2},
		{"9", 9},
		{"10", 10},
		{"100", 100},
		{"1048576", 1048576},
		{"1099511627776", 1 << 40},
		{"1234567890123456789", 1234567890123456789},
		{"9223372036854775807", 1<<63 - 1},
		{"9223372036854775808", 1 << 63},
		{"9223372036854775809", 1<<63 + 1},
		{"1000000000000000000", 1000000000000000000},
		{"9999999999999999998", 9999999999999999998},
		{"9999999999999999999", 9999999999999999999},
	} {
		for _, most := range append(mosts(), c.n, c.n-1, c.n+1) {
			if c.n <= most {
				wantNumber(t, c.s, most, c.n, true)
			} else {
				wantNumber(t, c.s, most, 0, false)
			}
		}
	}
}

// TestNumberDigits parses numbers of one to twenty digits, with zeros in front and without.
func TestNumberDigits(t *testing.T) {
	for n := 1; n <= 20; n++ {
		for digit := '1'; digit <= '9'; digit++ {
			s := strings.Repeat(string(digit), n)
			want, _ := new(big.Int).SetString(s, 10)
			if n <= 19 {
				wantNumber(t, s, great, want.Uint64(), true)
				wantNumber(t, s, want.Uint64()-1, 0, false)
			} else {
				wantNumber(t, s, great, 0, false)
			}
			for zeros := 1; zeros < 20; zeros++ {
				wantNumber(t, strings.Repeat("0", zeros)+s, great, 0, false)
			}
			for i := range s {
				wantNumber(t, s[:i]+"-"+s[i+1:], great, 0, false)
				wantNumber(t, s[:i]+" "+s[i+1:], great, 0, false)
				wantNumber(t, s[:i]+"_"+s[i+1:], great, 0, false)
			}
		}
		if n > 1 {
			wantNumber(t, strings.Repeat("0", n), great, 0, false)
		}
	}
}

// TestNumberNone: what is no number has no value.
func TestNumberNone(t *testing.T) {
	for _, s := range append(notNumbers(), longNumbers()...) {
		for _, most := range mosts() {
			wantNumber(t, s, most, 0, false)
		}
	}
	for b := range 256 {
		if b < '0' || b > '9' {
			for _, s := range []string{string([]byte{byte(b)}), string([]byte{'1', byte(b)}), string([]byte{byte(b), '1'}), string([]byte{'1', byte(b), '1'})} {
				wantNumber(t, s, great, 0, false)
			}
		}
	}
}

// wantSigned holds Signed's answer against what it should be.
func wantSigned(t *testing.T, s string, want int64, ok bool) {
	t.Helper()
	if got, is := Signed(s); got != want || is != ok {
		t.Errorf("P13.3: Signed(%q): %d, %v, want %d, %v", s, got, is, want, ok)
	}
}

// TestSigned parses numbers with a sign and without.
func TestSigned(t *testing.T) {
	for _, c := range []struct {
		s  string
		n  int64
		ok bool
	}{
		{"0", 0, true},
		{"1", 1, true},
		{"-1", -1, true},
		{"10", 10, true},
		{"-10", -10, true},
		{"-9", -9, true},
		{"1048577", 1048577, true},
		{"-1048577", -1048577, true},
		{"9223372036854775806", greatest - 1, true},
		{"9223372036854775807", greatest, true},
		{"9223372036854775808", 0, false},
		{"9223372036854775809", 0, false},
		{"9999999999999999999", 0, false},
		{"-9223372036854775806", least + 2, true},
		{"-9223372036854775807", least + 1, true},
		{"-9223372036854775808", least, true},
		{"-9223372036854775809", 0, false},
		{"-9223372036854775810", 0, false},
		{"-9999999999999999999", 0, false},
		{"18446744073709551615", 0, false},
		{"-18446744073709551615", 0, false},
		{"-18446744073709551616", 0, false},
		{"-18446744073709551617", 0, false},
		{"-0", 0, false},
		{"-00", 0, false},
		{"-01", 0, false},
		{"01", 0, false},
		{"", 0, false},
		{"-", 0, false},
		{"--", 0, false},
		{"--1", 0, false},
		{"- 1", 0, false},
		{"-1 ", 0, false},
		{" -1", 0, false},
		{"1-", 0, false},
		{"-1-", 0, false},
		{"+1", 0, false},
		{"+0", 0, false},
		{"+-1", 0, false},
		{"-+1", 0, false},
		{"−1", 0, false},
		{"–1", 0, false},
		{"-a", 0, false},
		{"-1_0", 0, false},
		{"-0x1", 0, false},
		{"-\x00", 0, false},
	} {
		wantSigned(t, c.s, c.n, c.ok)
	}
}

// TestSignedNone: what is no number is none with a - in front either.
func TestSignedNone(t *testing.T) {
	for _, s := range append(notNumbers(), longNumbers()...) {
		wantSigned(t, "-"+s, 0, false)
		if s != "-1" {
			wantSigned(t, s, 0, false)
		}
	}
}

// TestSignedPrinted: each number that is printed is parsed again.
func TestSignedPrinted(t *testing.T) {
	for _, n := range limits() {
		wantSigned(t, fmt.Sprint(n), n, true)
	}
	for n := int64(-2000); n <= 2000; n++ {
		wantSigned(t, fmt.Sprint(n), n, true)
	}
	for i := range 64 {
		n := int64(1) << i
		for _, n := range []int64{n, n - 1, n + 1, -n, -n - 1, -n + 1} {
			wantSigned(t, fmt.Sprint(n), n, true)
		}
	}
}

// wantParse holds Parse's answer against what it should be, and its words against what they were.
func wantParse(t *testing.T, words []string, want Cond, e api.Errno) {
	t.Helper()
	given := append([]string{}, words...)
	c, got := Parse(given...)
	if c != want || got != e {
		t.Errorf("P13.3: Parse(%q): %v, %d, want %v, %d", words, c, got, want, e)
	}
	for i, w := range given {
		if w != words[i] {
			t.Errorf("R6: Parse changes %q into %q", words[i], w)
		}
	}
}

// TestParse parses conditions, and what is none.
func TestParse(t *testing.T) {
	for _, c := range []struct {
		words string
		c     Cond
		e     api.Errno
	}{
		{"above 0", Cond{Above, 0, 0}, api.OK},
		{"above 5", Cond{Above, 5, 0}, api.OK},
		{"above -5", Cond{Above, -5, 0}, api.OK},
		{"above 9223372036854775807", Cond{Above, greatest, 0}, api.OK},
		{"above -9223372036854775808", Cond{Above, least, 0}, api.OK},
		{"below 0", Cond{Below, 0, 0}, api.OK},
		{"below 30", Cond{Below, 30, 0}, api.OK},
		{"below -30", Cond{Below, -30, 0}, api.OK},
		{"below 9223372036854775807", Cond{Below, greatest, 0}, api.OK},
		{"below -9223372036854775808", Cond{Below, least, 0}, api.OK},
		{"absent 1", Cond{Absent, 0, 1}, api.OK},
		{"absent 7", Cond{Absent, 0, 7}, api.OK},
		{"absent 1048576", Cond{Absent, 0, 1048576}, api.OK},
		{"rises 3 5", Cond{Rises, 3, 5}, api.OK},
		{"rises 0 1", Cond{Rises, 0, 1}, api.OK},
		{"rises 9223372036854775807 1048576", Cond{Rises, greatest, 1048576}, api.OK},
		{"falls 3 5", Cond{Falls, 3, 5}, api.OK},
		{"falls 0 1", Cond{Falls, 0, 1}, api.OK},
		{"falls 9223372036854775807 1048576", Cond{Falls, greatest, 1048576}, api.OK},

		{"above 9223372036854775808", Cond{}, api.ErrWord},
		{"above -9223372036854775809", Cond{}, api.ErrWord},
		{"below 9223372036854775808", Cond{}, api.ErrWord},
		{"below -9223372036854775809", Cond{}, api.ErrWord},
		{"absent 1048577", Cond{}, api.ErrWord},
		{"absent -1", Cond{}, api.ErrWord},
		{"rises 9223372036854775808 5", Cond{}, api.ErrWord},
		{"rises -9223372036854775809 5", Cond{}, api.ErrWord},
		{"rises 3 1048577", Cond{}, api.ErrWord},
		{"rises 3 -5", Cond{}, api.ErrWord},
		{"falls 9223372036854775808 5", Cond{}, api.ErrWord},
		{"falls -9223372036854775809 5", Cond{}, api.ErrWord},
		{"falls 3 1048577", Cond{}, api.ErrWord},
		{"falls 3 -5", Cond{}, api.ErrWord},

		{"absent 0", Cond{}, api.ErrRange},
		{"rises 3 0", Cond{}, api.ErrRange},
		{"rises -1 5", Cond{}, api.ErrRange},
		{"rises -1 0", Cond{}, api.ErrRange},
		{"rises -9223372036854775808 1048576", Cond{}, api.ErrRange},
		{"falls 3 0", Cond{}, api.ErrRange},
		{"falls -1 5", Cond{}, api.ErrRange},
		{"falls -1 0", Cond{}, api.ErrRange},
		{"falls -9223372036854775808 1048576", Cond{}, api.ErrRange},

		{"rises -1 x", Cond{}, api.ErrWord},
		{"rises x 0", Cond{}, api.ErrWord},
		{"rises -1 1048577", Cond{}, api.ErrWord},
		{"falls -1 x", Cond{}, api.ErrWord},
		{"falls x 0", Cond{}, api.ErrWord},
		{"falls -1 1048577", Cond{}, api.ErrWord},
	} {
		wantParse(t, strings.Fields(c.words), c.c, c.e)
	}
}

// TestParseMany parses each first word with too few words and with too many, whatever these are: ErrForm comes ahead of all other errors.
func TestParseMany(t *testing.T) {
	many := map[string]int{"above": 2, "below": 2, "absent": 2, "rises": 3, "falls": 3}
	for first, n := range many {
		for _, rest := range []string{"5 6 7 8 9", "1 1 1 1 1", "x x x x x", "0 0 0 0 0", "-1 -1 -1 -1 -1", "99999999999999999999 1 1 1 1"} {
			words := append([]string{first}, strings.Fields(rest)...)
			for k := 1; k <= len(words); k++ {
				if k != n {
					wantParse(t, words[:k], Cond{}, api.ErrForm)
				}
			}
		}
	}
	wantParse(t, nil, Cond{}, api.ErrForm)
	wantParse(t, []string{}, Cond{}, api.ErrForm)
	wantParse(t, []string{"rises", "3", "5", ""}, Cond{}, api.ErrForm)
	wantParse(t, []string{"above", "3", ""}, Cond{}, api.ErrForm)
	wantParse(t, append([]string{"rises"}, strings.Split(strings.Repeat("1 ", 100000), " ")...), Cond{}, api.ErrForm)
}

// TestParseFirst parses first words that are none, with any words behind them.
func TestParseFirst(t *testing.T) {
	for _, first := range []string{"", " ", "Above", "ABOVE", "abov", "abovee", "above ", " above", "above 5", "below\n", "Below", "absents", "absen", "rise", "Rises", "rises\x00", "falls.", "fall", "is", "equals", "if", "for", "1", "-1", "4", "é"} {
		for _, rest := range []string{"", "5", "1 1", "x", "x y", "3 5 7", "-1 0"} {
			wantParse(t, append([]string{first}, strings.Fields(rest)...), Cond{}, api.ErrForm)
		}
	}
}

// TestParseWord puts what is no number in each place.
func TestParseWord(t *testing.T) {
	for _, bad := range append(notNumbers(), longNumbers()...) {
		signed := api.ErrWord
		if bad == "-1" {
			signed = api.OK
		}
		for _, first := range []string{"above", "below"} {
			want := Cond{}
			if signed == api.OK {
				want, _ = Parse(first, "-1")
			}
			wantParse(t, []string{first, bad}, want, signed)
		}
		wantParse(t, []string{"absent", bad}, Cond{}, api.ErrWord)
		for _, first := range []string{"rises", "falls"} {
			wantParse(t, []string{first, "3", bad}, Cond{}, api.ErrWord)
			wantParse(t, []string{first, bad, bad}, Cond{}, api.ErrWord)
			wantParse(t, []string{first, "-1", bad}, Cond{}, api.ErrWord)
			if signed == api.OK {
				signed = api.ErrRange // a limit that is a number, but negative
			}
			wantParse(t, []string{first, bad, "5"}, Cond{}, signed)
			wantParse(t, []string{first, bad, "0"}, Cond{}, signed)
			wantParse(t, []string{first, bad, "1048577"}, Cond{}, api.ErrWord)
		}
	}
}

// TestText prints conditions, those too that Check refuses.
func TestText(t *testing.T) {
	for _, c := range []struct {
		c    Cond
		want string
	}{
		{Cond{Above, 0, 0}, "above 0"},
		{Cond{Above, -5, 0}, "above -5"},
		{Cond{Above, greatest, 0}, "above 9223372036854775807"},
		{Cond{Above, least, 0}, "above -9223372036854775808"},
		{Cond{Above, 5, 9}, "above 5"},
		{Cond{Below, 0, 0}, "below 0"},
		{Cond{Below, 30, 0}, "below 30"},
		{Cond{Below, greatest, 0}, "below 9223372036854775807"},
		{Cond{Below, least, great}, "below -9223372036854775808"},
		{Cond{Absent, 0, 1}, "absent 1"},
		{Cond{Absent, 0, 1048576}, "absent 1048576"},
		{Cond{Absent, 0, 0}, "absent 0"},
		{Cond{Absent, -4, great}, "absent 18446744073709551615"},
		{Cond{Rises, 3, 5}, "rises 3 5"},
		{Cond{Rises, 0, 1}, "rises 0 1"},
		{Cond{Rises, greatest, 1048576}, "rises 9223372036854775807 1048576"},
		{Cond{Rises, least, great}, "rises -9223372036854775808 18446744073709551615"},
		{Cond{Rises, 0, 0}, "rises 0 0"},
		{Cond{Falls, 3, 5}, "falls 3 5"},
		{Cond{Falls, 0, 1}, "falls 0 1"},
		{Cond{Falls, greatest, great}, "falls 9223372036854775807 18446744073709551615"},
		{Cond{Falls, least, 0}, "falls -9223372036854775808 0"},
		{Cond{}, ""},
		{Cond{0, 3, 5}, ""},
		{Cond{6, 3, 5}, ""},
		{Cond{255, 3, 5}, ""},
	} {
		if got := c.c.Text(); got != c.want {
			t.Errorf("P13.3: Text of %v: %q, want %q", c.c, got, c.want)
		}
	}
	for k := 6; k < 256; k++ {
		if got := (Cond{Kind(k), 1, 1}).Text(); got != "" {
			t.Errorf("P13.3: Text of kind %d: %q", k, got)
		}
	}
}

// TestTextParsed: the words of a text are the condition, for each that Check lets pass; of others Parse answers an error, or what is left of it.
func TestTextParsed(t *testing.T) {
	for _, c := range valid() {
		wantParse(t, strings.Fields(c.Text()), c, api.OK)
		wantParse(t, strings.Split(c.Text(), " "), c, api.OK)
	}
	for k := range 256 {
		for _, limit := range limits() {
			for _, n := range ticks() {
				c := Cond{Kind(k), limit, n}
				got, e := Parse(strings.Fields(c.Text())...)
				switch {
				case c.Check() == api.OK && (got != c || e != api.OK):
					t.Errorf("P13.3: Parse of the text of %v: %v, %d", c, got, e)
				case e != api.OK && got != (Cond{}):
					t.Errorf("R3: Parse of the text of %v: %v beside %d", c, got, e)
				case e == api.OK && got.Check() != api.OK:
					t.Errorf("P13.3: Parse of the text of %v: %v, which Check refuses", c, got)
				}
			}
		}
	}
}

// TestParsedText: a text that is printed again is the same, where it is a condition's.
func TestParsedText(t *testing.T) {
	for _, words := range []string{"above 5", "below -7", "absent 3", "rises 3 5", "falls 0 1048576", "above " + fmt.Sprint(int64(math.MinInt64))} {
		c, e := Parse(strings.Fields(words)...)
		if got := c.Text(); e != api.OK || got != words {
			t.Errorf("P13.3: %q is printed as %q, %d", words, got, e)
		}
	}
}
