package cond

import (
	"math"
	"strconv"
	"strings"

	"watchfire/api"
)

// maxDigits is how many digits a number may have: whatever they are, it fits an uint64.
const maxDigits = 19

// spelling is how a kind is written: its word, and which of the numbers follow it.
type spelling struct {
	word         string
	limit, ticks bool
}

// spellings are those of the kinds, by their numbers; there is no kind 0.
var spellings = [...]spelling{
	Above:  {"above", true, false},
	Below:  {"below", true, false},
	Absent: {"absent", false, true},
	Rises:  {"rises", true, true},
	Falls:  {"falls", true, true},
}

// words returns how many words are written.
func (w spelling) words() int {
	n := 1
	if w.limit {
		n++
	}
	if w.ticks {
		n++
	}
	return n
}

// kindOf returns the kind that a word names, and true, or false if there is none.
func kindOf(word string) (Kind, bool) {
	for k := Above; k <= Falls; k++ {
		if spellings[k].word == word {
			return k, true
		}
	}
	return 0, false
}

// Parse returns the condition that the words tell: above n, below n, absent t, rises n t, or falls n t.
func Parse(words ...string) (Cond, api.Errno) {
	if len(words) == 0 {
		return Cond{}, api.ErrForm
	}
	kind, found := kindOf(words[0])
	if !found || len(words) != spellings[kind].words() {
		return Cond{}, api.ErrForm
	}
	c := Cond{Kind: kind}
	numbers, ok := words[1:], true
	if spellings[kind].limit {
		if c.Limit, ok = Signed(numbers[0]); !ok {
			return Cond{}, api.ErrWord
		}
		numbers = numbers[1:]
	}
	if spellings[kind].ticks {
		if c.Ticks, ok = Number(numbers[0], api.MaxTicks); !ok {
			return Cond{}, api.ErrWord
		}
	}
	if e := c.Check(); e != api.OK {
		return Cond{}, e
	}
	return c, api.OK
}

// Text returns the words of the condition, separated by blanks. A number that its kind does not ask for is left out.
func (c Cond) Text() string {
	if c.Kind < Above || c.Kind > Falls {
		return ""
	}
	w := spellings[c.Kind]
	words := []string{w.word}
	if w.limit {
		words = append(words, strconv.FormatInt(c.Limit, 10))
	}
	if w.ticks {
		words = append(words, strconv.FormatUint(c.Ticks, 10))
	}
	return strings.Join(words, " ")
}

// Number returns the number of one to nineteen digits that s is, and true, or false if it is none, has zeros in front, or is above most.
func Number(s string, most uint64) (uint64, bool) {
	if len(s) > maxDigits || len(s) > 1 && s[0] == '0' {
		return 0, false
	}
	n, err := strconv.ParseUint(s, 10, 64)
	if err != nil || n > most {
		return 0, false
	}
	return n, true
}

// Signed returns the number that s is, perhaps with a - in front (but not of 0), and true, or false if it is none that fits.
func Signed(s string) (int64, bool) {
	digits, minus := strings.CutPrefix(s, "-")
	if !minus {
		n, ok := Number(s, math.MaxInt64)
		return int64(n), ok
	}
	n, ok := Number(digits, 1<<63)
	if !ok || n == 0 {
		return 0, false
	}
	// 2^63 becomes negative only by wrapping round.
	return int64(-n), true
}
