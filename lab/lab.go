// Package lab is layer 1: label sets, such as host=a,job=web: see shared/doc/01-lab.md.
package lab

import (
	"cmp"
	"slices"
	"strings"

	"watchfire/api"
)

// Key reports whether s is a key: one to eight lower-case letters.
func Key(s string) bool {
	return fits(s, api.MaxKey, letter)
}

// Value reports whether s is a value: one to sixteen characters, each a lower-case letter, a digit, or one of . _ -.
func Value(s string) bool {
	return fits(s, api.MaxValue, sign)
}

// Name reports whether s is a name: a value of at most twelve characters that begins with a letter.
func Name(s string) bool {
	return fits(s, api.MaxName, sign) && letter(rune(s[0]))
}

// fits reports whether s has one to most characters, all of them allowed.
// Allowed characters are single bytes, so the length in bytes decides before anything is scanned.
func fits(s string, most int, allowed func(r rune) bool) bool {
	if len(s) == 0 || len(s) > most {
		return false
	}
	for _, r := range s {
		if !allowed(r) {
			return false
		}
	}
	return true
}

func letter(r rune) bool {
	return r >= 'a' && r <= 'z'
}

func sign(r rune) bool {
	return letter(r) || r >= '0' && r <= '9' || r == '.' || r == '_' || r == '-'
}

// Check returns the first error by which l is not labels.
func Check(l []api.Pair) api.Errno {
	if len(l) > api.MaxPairs {
		return api.ErrMany
	}
	for i, p := range l {
		if !Key(p.Key) || !Value(p.Value) {
			return api.ErrName
		}
		if i == 0 {
			continue
		}
		if l[i-1].Key == p.Key {
			return api.ErrTwice
		}
		if l[i-1].Key > p.Key {
			return api.ErrOrder
		}
	}
	return api.OK
}

// Make returns pairs, given in any order, as labels, or Check's error.
func Make(l ...api.Pair) ([]api.Pair, api.Errno) {
	made := slices.Clone(l)
	slices.SortFunc(made, comparePairs)
	if e := Check(made); e != api.OK {
		return nil, e
	}
	return made, api.OK
}

// Get returns the value of the first pair with a key, and true, or false if there is none.
func Get(l []api.Pair, key string) (string, bool) {
	for _, p := range l {
		if p.Key == key {
			return p.Value, true
		}
	}
	return "", false
}

// Text returns the pairs as key=value, separated by commas.
func Text(l []api.Pair) string {
	var b strings.Builder
	for i, p := range l {
		if i > 0 {
			b.WriteByte(',')
		}
		b.WriteString(p.Key)
		b.WriteByte('=')
		b.WriteString(p.Value)
	}
	return b.String()
}

// Parse returns the labels of such a text, whose pairs may be in any order.
func Parse(s string) ([]api.Pair, api.Errno) {
	if len(s) > api.MaxBytes {
		return nil, api.ErrLong
	}
	if s == "" {
		return nil, api.OK
	}
	var l []api.Pair
	for part := range strings.SplitSeq(s, ",") {
		key, value, ok := strings.Cut(part, "=")
		if !ok {
			return nil, api.ErrForm
		}
		if len(l) == api.MaxPairs {
			return nil, api.ErrMany
		}
		l = append(l, api.Pair{Key: key, Value: value})
	}
	return Make(l...)
}

// Same reports whether a and b are equal.
func Same(a, b []api.Pair) bool {
	return slices.Equal(a, b)
}

// Compare returns a negative number, 0 or a positive number as a precedes, equals or follows b in the order of labels.
func Compare(a, b []api.Pair) int {
	return slices.CompareFunc(a, b, comparePairs)
}

func comparePairs(a, b api.Pair) int {
	return cmp.Or(strings.Compare(a.Key, b.Key), strings.Compare(a.Value, b.Value))
}

// Only returns the pairs whose keys are among keys.
func Only(l []api.Pair, keys ...string) []api.Pair {
	return pick(l, func(p api.Pair) bool { return slices.Contains(keys, p.Key) })
}

// Without returns the pairs whose keys are not among keys.
func Without(l []api.Pair, keys ...string) []api.Pair {
	return pick(l, func(p api.Pair) bool { return !slices.Contains(keys, p.Key) })
}

// pick returns the wanted pairs in a list of their own: the argument's memory stays the caller's.
func pick(l []api.Pair, wanted func(p api.Pair) bool) []api.Pair {
	var picked []api.Pair
	for _, p := range l {
		if wanted(p) {
			picked = append(picked, p)
		}
	}
	return picked
}

// Merge returns the labels of b's pairs and those of a whose keys b does not have.
func Merge(a, b []api.Pair) ([]api.Pair, api.Errno) {
	kept := pick(a, func(p api.Pair) bool {
		_, replaced := Get(b, p.Key)
		return !replaced
	})
	return Make(append(kept, b...)...)
}

// Has reports whether Get finds each pair of some in l.
func Has(l, some []api.Pair) bool {
	for _, p := range some {
		if v, ok := Get(l, p.Key); !ok || v != p.Value {
			return false
		}
	}
	return true
}
