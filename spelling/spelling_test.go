package spelling_test

import (
	"regexp"
	"testing"

	"putlog/spelling"
)

// Names and numbers are compared with expressions, for all short words of some bytes.
func TestWords(t *testing.T) {
	name := regexp.MustCompile(`^[A-Za-z][A-Za-z0-9-]{0,11}$`)
	number := regexp.MustCompile(`^(0|-?[1-9][0-9]{0,2})$`)
	for _, w := range wordsOf(" -0123459:@AMZ[`amz{/\n\xe9") {
		if spelling.IsName(w) != name.MatchString(w) {
			t.Errorf("IsName of %q: %t", w, spelling.IsName(w))
		}
		if spelling.IsNumber(w, 3) != number.MatchString(w) {
			t.Errorf("IsNumber of %q: %t", w, spelling.IsNumber(w, 3))
		}
	}
}

// wordsOf is all words of at most three of some bytes.
func wordsOf(bytes string) []string {
	out := []string{""}
	for from := 0; len(out[from]) < 3; from++ {
		for i := range len(bytes) {
			out = append(out, out[from]+bytes[i:i+1])
		}
	}
	return out
}

// Their lengths.
func TestLengths(t *testing.T) {
	if !spelling.IsName("abcdefghijkl") || spelling.IsName("abcdefghijklm") {
		t.Error("a name has at most 12 bytes")
	}
	for word, is := range map[string]bool{"1234567": true, "-1234567": true, "12345678": false, "-12345678": false} {
		if spelling.IsNumber(word, 7) != is {
			t.Errorf("IsNumber of %q: %t", word, !is)
		}
	}
}
