// Package word is layer 1: see shared/doc/01-word.md.
package word

import (
	"strconv"
	"strings"

	"towncrier/api"
)

const maxNum = 1000000

// Right says whether s is a word: 1 to 8 bytes, each a letter from a to z or a digit.
func Right(s string) bool {
	if len(s) == 0 || len(s) > api.MaxWord {
		return false
	}
	for _, c := range s {
		if !isLetter(c) && !isDigit(c) {
			return false
		}
	}
	return true
}

func isLetter(c rune) bool { return 'a' <= c && c <= 'z' }

func isDigit(c rune) bool { return '0' <= c && c <= '9' }

// Text tells n's text.
func Text(n int) string { return strconv.Itoa(n) }

// Num tells the number whose text is s; false if there is none, or if it isn't within 1,000,000.
func Num(s string) (int, bool) {
	n, err := strconv.Atoi(s)
	if err != nil || n < -maxNum || n > maxNum {
		return 0, false
	}
	// Atoi also takes +5, 05 and -0, and a number has just one text.
	if Text(n) != s {
		return 0, false
	}
	return n, true
}

// Split tells what stands between blanks, in its order, without the empty parts.
func Split(s string) []string {
	var parts []string
	start := 0
	// A rune's place is enough: the byte 32 is never a piece of a longer rune.
	for i, c := range s {
		if c == ' ' {
			parts = appendFilled(parts, s[start:i])
			start = i + 1
		}
	}
	return appendFilled(parts, s[start:])
}

func appendFilled(parts []string, part string) []string {
	if part == "" {
		return parts
	}
	return append(parts, part)
}

// Join tells the texts, empty ones too, with a blank between each two.
func Join(l ...string) string { return strings.Join(l, " ") }
