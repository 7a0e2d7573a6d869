// Package accrue: loans, day by day, to the last cent: see DOC.md.
package accrue

import (
	"accrue/api"
	"accrue/calendar"
)

// Day tells a date's day (P3).
func Day(date string) (int, api.Errno) {
	day, ok := calendar.Parse(date)
	if !ok {
		return 0, api.ErrDate
	}
	return day, api.OK
}

// Date tells a day's date (P3).
func Date(day int) (string, api.Errno) {
	if !calendar.IsDay(day) {
		return "", api.ErrDate
	}
	return calendar.Format(day), api.OK
}

// Weight tells the weight of some days (P3).
func Weight(basis int, from int, to int) (int, api.Errno) {
	if !calendar.IsBasis(basis) {
		return 0, api.ErrBasis
	}
	if !calendar.IsDay(from) || !calendar.IsDay(to) || to < from {
		return 0, api.ErrDate
	}
	return calendar.Weight(basis, from, to), api.OK
}

// Loan is a loan, with its events and its book.
type Loan struct{}

// Open opens a loan (P4).
func Open(t api.Terms) (*Loan, api.Errno) { return nil, api.OK }

// Add tells of an event (P5).
func (l *Loan) Add(e api.Event) api.Errno { return api.OK }

// Cancel takes an event back (P5).
func (l *Loan) Cancel(seq int) api.Errno { return api.OK }

// Run brings the loan to a day (P6, P7).
func (l *Loan) Run(day int) api.Errno { return api.OK }

// Balance tells what the loan owes (P6).
func (l *Loan) Balance() api.Balance { return api.Balance{} }

// Book tells the entries that were written (P7).
func (l *Loan) Book(from int) []api.Entry { return nil }

// Accounts tells what the book makes of the accounts (P7).
func (l *Loan) Accounts() []int { return nil }

// Save tells the loan as text (P8).
func (l *Loan) Save() string { return "" }

// Load makes a loan of a text (P8).
func Load(text string) (*Loan, api.Errno) { return nil, api.OK }
