// Package spelling tells which words are names and numbers of the document; the packages of the chapters share it.
package spelling

import (
	"strings"

	"putlog/api"
)

// IsName reports whether s is a name.
func IsName(s string) bool {
	if len(s) < 1 || len(s) > api.MaxName || !isLetter(s[0]) {
		return false
	}
	for i := range len(s) {
		if !isLetter(s[i]) && !isDigit(s[i]) && s[i] != '-' {
			return false
		}
	}
	return true
}

// IsNumber reports whether s is a number of a text, with at most so many digits.
func IsNumber(s string, most int) bool {
	digits, negative := strings.CutPrefix(s, "-")
	if digits == "0" {
		return !negative
	}
	if len(digits) < 1 || len(digits) > most || digits[0] == '0' {
		return false
	}
	for i := range len(digits) {
		if !isDigit(digits[i]) {
			return false
		}
	}
	return true
}

func isLetter(c byte) bool { return 'a' <= c && c <= 'z' || 'A' <= c && c <= 'Z' }

func isDigit(c byte) bool { return '0' <= c && c <= '9' }
