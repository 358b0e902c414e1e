package office

import (
	"strconv"
	"strings"

	"putlog/spelling"
)

// joined returns the words of texts, numbers and truth values, with single blanks between them.
func joined(values ...any) string {
	var words []string
	for _, v := range values {
		switch v := v.(type) {
		case string:
			words = append(words, v)
		case int:
			words = append(words, strconv.Itoa(v))
		case bool:
			words = append(words, truthWord(v))
		}
	}
	return strings.Join(words, " ")
}

// truthWord returns the word of a truth value.
func truthWord(is bool) string {
	if is {
		return "1"
	}
	return "0"
}

// wordsOf returns the words of a text, or none if there are not single blanks between them.
func wordsOf(text string) []string {
	words := strings.Split(text, " ")
	for _, w := range words {
		if w == "" || strings.Contains(w, "\n") {
			return nil
		}
	}
	return words
}

// readWords reads words that are numbers of at most so many digits, truth values or any words, as the places
// for them are; there must be as many. It reports whether it could.
func readWords(words []string, digits int, places ...any) bool {
	if len(words) != len(places) {
		return false
	}
	for i, w := range words {
		if !readWord(w, digits, places[i]) {
			return false
		}
	}
	return true
}

// readWord reads a word into its place, and reports whether it could.
func readWord(word string, digits int, place any) bool {
	switch p := place.(type) {
	case *int:
		n, ok := numberOf(word, digits)
		*p = n
		return ok
	case *bool:
		*p = word == truthWord(true)
		return *p || word == truthWord(false)
	case *string:
		*p = strings.Clone(word) // so that the text is not kept
		return true
	}
	return false
}

// numberOf returns the number of at most so many digits that a word is, and whether it is one.
func numberOf(word string, digits int) (int, bool) {
	if !spelling.IsNumber(word, digits) {
		return 0, false
	}
	n, e := strconv.Atoi(word)
	return n, e == nil
}
