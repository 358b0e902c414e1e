package office

import (
	"strings"

	"putlog/api"
	"putlog/spelling"
)

// formulaDigits is the number of digits that a number in a formula may have.
const formulaDigits = 9

// wordBytes is the bytes of names and numbers in a formula.
const wordBytes = "ABCDEFGHIJKLMNOPQRSTUVWXYZabcdefghijklmnopqrstuvwxyz0123456789"

// noFormula is what the parser panics with where a text is no formula.
type noFormula struct{}

// parseFormula returns the formula that a text is.
func parseFormula(text string) (x formula, e api.Errno) {
	defer func() {
		switch p := recover().(type) {
		case nil:
		case noFormula:
			x, e = nil, api.ErrSyntax
		default:
			panic(p)
		}
	}()
	r := parser{text}
	x = r.sum()
	if r.skip(); r.rest != "" {
		panic(noFormula{})
	}
	return x, api.OK
}

// A parser reads a formula; it panics with noFormula where there is none. What it reads may begin with blanks.
type parser struct{ rest string }

func (r *parser) sum() formula {
	return r.row("+-", r.product)
}

func (r *parser) product() formula {
	return r.row("*/", r.factor)
}

// row reads formulas with signs between them, from the left to the right.
func (r *parser) row(signs string, read func() formula) formula {
	x := read()
	for {
		sign := r.take(signs)
		if sign == 0 {
			return x
		}
		x = operation{sign, x, read()}
	}
}

func (r *parser) factor() formula {
	switch r.take("-(") {
	case '-':
		return opposite{r.factor()}
	case '(':
		x := r.sum()
		if r.take(")") == 0 {
			panic(noFormula{})
		}
		return x
	}
	return r.word()
}

// word reads a number or a name, ahead of which there are no blanks any more.
func (r *parser) word() formula {
	rest := strings.TrimLeft(r.rest, wordBytes)
	word := r.rest[:len(r.rest)-len(rest)]
	r.rest = rest
	if n, ok := numberOf(word, formulaDigits); ok {
		return numeral(n)
	}
	if !spelling.IsName(word) {
		panic(noFormula{})
	}
	return variable(word)
}

// take reads the next byte if it is one of the signs, and returns it; otherwise it returns 0.
func (r *parser) take(signs string) byte {
	r.skip()
	if r.rest == "" || strings.IndexByte(signs, r.rest[0]) < 0 {
		return 0
	}
	sign := r.rest[0]
	r.rest = r.rest[1:]
	return sign
}

// skip passes over blanks.
func (r *parser) skip() { r.rest = strings.TrimLeft(r.rest, " ") }
