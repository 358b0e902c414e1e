package record_test

import (
	"slices"
	"testing"

	"putlog/api"
	"putlog/record"
)

// P9.7: what a green platform has.
func TestGreenPlatforms(t *testing.T) {
	d := dice()
	released := 0
	for range 3000 {
		l := someRecord(d, 40)
		day := d.Intn(40)
		green, e := record.Released(l, day)
		wantError(t, "Released", e, api.OK)
		before := eventsUpTo(l, day)
		for _, platform := range green {
			released++
			designed := lastKind(before, platform, 0)
			handed, passed := lastKind(before, platform, 1), lastInspection(before, platform, true)
			if designed < 0 || designed < lastKind(before, platform, 6) || handed < designed || passed < lastKind(before, "", 3) || day > before[passed].Day+7 {
				t.Errorf("%s is green on day %d in %v", platform, day, l)
			}
		}
	}
	if released < 100 {
		t.Errorf("only %d platforms are green", released)
	}
}

// P9.7: behind an alteration a platform is red until a new design and hand-over.
func TestAlterations(t *testing.T) {
	d := dice()
	for range 2000 {
		l := someRecord(d, 20)
		day := 0
		if len(l) > 0 {
			day = l[len(l)-1].Day
		}
		l = append(l, alteration(day, "a"))
		for range d.Intn(6) { // no designs
			if x := someEvent(d, 3, day, 4); x.Kind != 0 && nextError(l, x) == api.OK {
				l = append(l, x)
				day = x.Day
			}
		}
		tag, e := record.Tag(l, "a", day)
		want(t, "Tag behind an alteration", tag, e, 0, api.OK)
		l = append(l, design(day, "a", 5), weekly(day, "a", true))
		tag, e = record.Tag(l, "a", day)
		want(t, "Tag behind a new design", tag, e, 0, api.OK)
		l = append(l, handover(day, "a", true))
		got, e := record.Reasons(l, "a", day)
		if e != api.OK || slices.ContainsFunc(got, func(r int) bool { return r < 3 }) {
			t.Errorf("Reasons behind a new design and hand-over: %v, error %d", got, e)
		}
	}
}

// P9.7: a record without the events behind a day tells the same of this day.
func TestLaterEvents(t *testing.T) {
	d := dice()
	for range 2000 {
		l := someRecord(d, 40)
		day := d.Intn(30)
		before := eventsUpTo(l, day)
		names, e := record.Platforms(before)
		wantError(t, "Platforms", e, api.OK)
		for _, platform := range names {
			for _, name := range []string{"Tag", "Reasons", "Defects", "History"} {
				x := input{events: l, platform: platform, day: day, to: day}
				all := functions()[name](x)
				x.events = before
				if few := functions()[name](x); !same(all, few) {
					t.Errorf("%s: %v of all, %v without the events behind day %d", name, all, few, day)
				}
			}
		}
		for _, name := range []string{"Due", "Released"} {
			all, few := functions()[name](input{events: l, day: day}), functions()[name](input{events: before, day: day})
			if !same(all, few) {
				t.Errorf("%s: %v of all, %v without the events behind day %d", name, all, few, day)
			}
		}
	}
}

// P9.7: what was delivered is the sum of the others, and of the counts of the lots.
func TestDelivered(t *testing.T) {
	d := dice()
	for range 2000 {
		terms := someTerms(d)
		l := someMoves(d, terms, 30)
		balance, e := record.Balance(terms, l, 20000)
		wantError(t, "Balance", e, api.OK)
		lots, e := record.Lots(terms, l)
		wantError(t, "Lots", e, api.OK)
		for i, b := range balance {
			sum := 0
			for _, x := range lots {
				if x.Part == terms[i].Part {
					sum += x.Count
				}
			}
			if b[0] != b[1]+b[2]+b[3] || b[0] != sum {
				t.Errorf("Balance: %v; lots with %d", b, sum)
			}
		}
	}
}

// P9.7: invoices of following times add up to the account; none is negative.
func TestInvoicesAddUp(t *testing.T) {
	d := dice()
	for range 1000 {
		terms := someTerms(d)
		l := someMoves(d, terms, 30)
		first, e := record.Account(terms, l, 0)
		wantError(t, "Account", e, api.OK)
		sum, day := amountOf(first), 0
		for range 6 {
			next := day + d.Intn(30)
			n, e := record.Invoice(terms, l, day, next)
			if e != api.OK || n < 0 {
				t.Errorf("Invoice: %d, error %d", n, e)
			}
			sum += n
			day = next
		}
		last, e := record.Account(terms, l, day)
		want(t, "the invoices", sum, e, amountOf(last), api.OK)
	}
}
