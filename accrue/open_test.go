package accrue_test

import (
	"math"
	"testing"

	"accrue/accrue"
	"accrue/api"
)

const start = 36524 // 2000-01-01

// plain is the loan of the document's examples: each day earns 1000.
var plain = api.Terms{Start: start, Principal: 36500000, Rate: 10000, Basis: api.Actual365, Due: 15}

func open(t *testing.T, terms api.Terms, events ...api.Event) *accrue.Loan {
	t.Helper()
	loan, e := accrue.Open(terms)
	if loan == nil || e != api.OK {
		t.Fatalf("Open(%+v): loan %t, error %d", terms, loan != nil, e)
	}
	for _, event := range events {
		add(t, loan, event)
	}
	return loan
}

func wantBalance(t *testing.T, loan *accrue.Loan, want api.Balance) {
	t.Helper()
	if got := loan.Balance(); got != want {
		t.Errorf("Balance:\n got %+v\nwant %+v", got, want)
	}
}

// termsField names one number of the terms and its limits.
type termsField struct {
	name            string
	of              func(*api.Terms) *int
	least, greatest int
}

func termsFields() []termsField {
	return []termsField{
		{"Start", func(t *api.Terms) *int { return &t.Start }, 0, 105872},
		{"Principal", func(t *api.Terms) *int { return &t.Principal }, 0, 100000000000},
		{"Rate", func(t *api.Terms) *int { return &t.Rate }, 0, 1000000},
		{"Fine", func(t *api.Terms) *int { return &t.Fine }, 0, 1000000},
		{"Basis", func(t *api.Terms) *int { return &t.Basis }, 1, 3},
		{"Due", func(t *api.Terms) *int { return &t.Due }, 1, 28},
	}
}

func wantNoLoan(t *testing.T, terms api.Terms) {
	t.Helper()
	if loan, e := accrue.Open(terms); loan != nil || e != api.ErrTerms {
		t.Errorf("Open(%+v): loan %t, error %d, want ErrTerms", terms, loan != nil, e)
	}
}

func TestOpenAtTheEdgesOfTheTerms(t *testing.T) {
	for _, f := range termsFields() {
		for _, right := range []int{f.least, f.least + 1, f.greatest - 1, f.greatest} {
			terms := plain
			*f.of(&terms) = right
			wantBalance(t, open(t, terms), api.Balance{Rate: terms.Rate, Day: terms.Start})
		}
		for _, wrong := range []int{f.least - 1, f.greatest + 1, -1, math.MinInt, math.MaxInt, math.MinInt32 - 1, 1<<40 + 1} {
			terms := plain
			*f.of(&terms) = wrong
			wantNoLoan(t, terms)
		}
	}
}

func TestOpenWithAllAtTheirEdges(t *testing.T) {
	var least, greatest, below, beyond api.Terms
	for _, f := range termsFields() {
		*f.of(&least) = f.least
		*f.of(&greatest) = f.greatest
		*f.of(&below) = f.least - 1
		*f.of(&beyond) = f.greatest + 1
	}
	open(t, least)
	open(t, greatest)
	wantNoLoan(t, below)
	wantNoLoan(t, beyond)
	wantNoLoan(t, api.Terms{})
}

func TestOpenAnswersALoanWithoutEvents(t *testing.T) {
	loan := open(t, plain)
	if e := loan.Cancel(0); e != api.ErrNone {
		t.Errorf("Cancel on a new loan: %d", e)
	}
	run(t, loan, start+1)
	wantBalance(t, loan, api.Balance{Principal: 36500000, Interest: 1000, Rate: 10000, Day: start + 1})
}

// What is done to one loan is not seen in another one of the same terms.
func TestLoansAreApart(t *testing.T) {
	one := open(t, plain)
	other := open(t, plain)
	add(t, one, api.Event{Day: start, Kind: api.Draw, Seq: 1, Amount: 36500000})
	run(t, one, start+2)
	wantBalance(t, other, api.Balance{Rate: 10000, Day: start})
	if e := other.Cancel(1); e != api.ErrNone {
		t.Errorf("Cancel of the other loan's event: %d", e)
	}
	run(t, other, start+1)
	wantBalance(t, other, api.Balance{Principal: 36500000, Interest: 1000, Rate: 10000, Day: start + 1})
	wantBalance(t, one, api.Balance{Principal: 73000000, Interest: 4000, Rate: 10000, Day: start + 2})
}
