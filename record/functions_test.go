package record_test

import (
	"reflect"
	"testing"

	"putlog/api"
	"putlog/record"
)

// A function calls a function of the package with an input; the last result is the error.
type function func(x input) []any

// functions is all functions of the package.
func functions() map[string]function {
	return map[string]function{
		"CheckRecord": func(x input) []any { return []any{record.CheckRecord(x.events)} },
		"Add":         func(x input) []any { l, e := record.Add(x.events, x.event); return []any{l, e} },
		"Correct":     func(x input) []any { l, e := record.Correct(x.events, x.at, x.event); return []any{l, e} },
		"Platforms":   func(x input) []any { l, e := record.Platforms(x.events); return []any{l, e} },
		"Tag":         func(x input) []any { n, e := record.Tag(x.events, x.platform, x.day); return []any{n, e} },
		"Reasons":     func(x input) []any { l, e := record.Reasons(x.events, x.platform, x.day); return []any{l, e} },
		"History": func(x input) []any {
			l, e := record.History(x.events, x.platform, x.from, x.to)
			return []any{l, e}
		},
		"Defects":    func(x input) []any { l, e := record.Defects(x.events, x.platform, x.day); return []any{l, e} },
		"Due":        func(x input) []any { l, e := record.Due(x.events, x.day); return []any{l, e} },
		"Released":   func(x input) []any { l, e := record.Released(x.events, x.day); return []any{l, e} },
		"CheckTerms": func(x input) []any { return []any{record.CheckTerms(x.terms)} },
		"CheckMoves": func(x input) []any { return []any{record.CheckMoves(x.terms, x.moves)} },
		"OnHire":     func(x input) []any { l, e := record.OnHire(x.terms, x.moves, x.day); return []any{l, e} },
		"Lots":       func(x input) []any { l, e := record.Lots(x.terms, x.moves); return []any{l, e} },
		"Weeks":      func(x input) []any { n, e := record.Weeks(x.in, x.out, x.least); return []any{n, e} },
		"Account":    func(x input) []any { l, e := record.Account(x.terms, x.moves, x.day); return []any{l, e} },
		"Total":      func(x input) []any { n, e := record.Total(x.charges); return []any{n, e} },
		"Invoice":    func(x input) []any { n, e := record.Invoice(x.terms, x.moves, x.from, x.to); return []any{n, e} },
		"Balance":    func(x input) []any { l, e := record.Balance(x.terms, x.moves, x.day); return []any{l, e} },
	}
}

// errorOf is the error of a function, beside which there must be no other result.
func errorOf(t *testing.T, name string, x input) api.Errno {
	t.Helper()
	results := functions()[name](x)
	last := len(results) - 1
	e := results[last].(api.Errno)
	for _, result := range results[:last] {
		if e != api.OK && !reflect.ValueOf(result).IsZero() && !same(result, "[]") {
			t.Errorf("%s: %v beside error %d", name, result, e)
		}
	}
	return e
}
