// Package figure is layer 1: numbers and names in words.
package figure

import "strconv"

// maxName is the document's MaxName. It is told again here because this layer stands on nothing, not even on api.
const maxName = 8

// maxDigits bounds a number's text ahead of reading it, so that no sum of digits can pass the greatest int.
const maxDigits = 13

// Print writes a number, from 0 on, in base 10.
func Print(n int) string { return strconv.Itoa(n) }

// Digit tells whether a byte is one of 0 to 9.
func Digit(c byte) bool { return '0' <= c && c <= '9' }

// Parse reads the number that the whole text is, if it is at most most.
func Parse(s string, most int) (int, bool) {
	if len(s) == 0 || len(s) > maxDigits || padded(s) {
		return 0, false
	}
	n := 0
	for i := range len(s) {
		if !Digit(s[i]) {
			return 0, false
		}
		n = 10*n + int(s[i]-'0')
	}
	if n > most {
		return 0, false
	}
	return n, true
}

// Name tells whether a text may be a name.
func Name(s string) bool {
	if len(s) == 0 || len(s) > maxName {
		return false
	}
	// By bytes, not by runes: a letter beyond ASCII isn't one of a name's.
	for i := range len(s) {
		if !Digit(s[i]) && !letter(s[i]) {
			return false
		}
	}
	return true
}

// padded tells of a text that isn't empty whether noughts stand ahead of a number: each number has one text only.
func padded(s string) bool { return len(s) > 1 && s[0] == '0' }

func letter(c byte) bool { return 'a' <= c && c <= 'z' || 'A' <= c && c <= 'Z' }
