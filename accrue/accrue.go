// Package accrue: loans, day by day, to the last cent: see DOC.md.
package accrue

import (
	"slices"

	"accrue/api"
	"accrue/calendar"
	"accrue/ledger"
	"accrue/lines"
	"accrue/owed"
)

// Day tells a date's day (P3).
func Day(date string) (int, api.Errno) {
	day, ok := calendar.Parse(date)
	if !ok {
		return 0, api.ErrDate
	}
	return day, api.OK
}

// Date tells a day's date (P3).
func Date(day int) (string, api.Errno) {
	if !calendar.IsDay(day) {
		return "", api.ErrDate
	}
	return calendar.Format(day), api.OK
}

// Weight tells the weight of some days (P3).
func Weight(basis int, from int, to int) (int, api.Errno) {
	if !calendar.IsBasis(basis) {
		return 0, api.ErrBasis
	}
	if !calendar.IsDay(from) || !calendar.IsDay(to) || to < from {
		return 0, api.ErrDate
	}
	return calendar.Weight(basis, from, to), api.OK
}

// Loan is a loan, with its events and its book.
type Loan struct {
	terms api.Terms
	// events stand in the order in which they happen.
	events []api.Event
	// now is what Balance tells; its Day is the loan's day.
	now  api.Balance
	book *ledger.Book
}

// Open opens a loan (P4).
func Open(t api.Terms) (*Loan, api.Errno) {
	if !rightTerms(t) {
		return nil, api.ErrTerms
	}
	return &Loan{terms: t, now: owed.First(t).Balance(t.Start), book: ledger.New()}, api.OK
}

// Add tells of an event (P5).
func (l *Loan) Add(e api.Event) api.Errno {
	if fault := eventFault(l.terms, e); fault != api.OK {
		return fault
	}
	if len(l.events) >= api.MaxEvents {
		return api.ErrMany
	}
	if placeOfSeq(l.events, e.Seq) >= 0 {
		return api.ErrSeq
	}
	place, _ := slices.BinarySearchFunc(l.events, e, compareEvents)
	l.events = slices.Insert(l.events, place, e)
	return api.OK
}

// Cancel takes an event back (P5).
func (l *Loan) Cancel(seq int) api.Errno {
	place := placeOfSeq(l.events, seq)
	if place < 0 {
		return api.ErrNone
	}
	l.events = slices.Delete(l.events, place, place+1)
	return api.OK
}

// Run brings the loan to a day (P6, P7). It goes through all days from Start
// on: events of the days that were gone through may have come or gone since.
func (l *Loan) Run(day int) api.Errno {
	if day < l.now.Day || !span(l.terms).allow(day) {
		return api.ErrDay
	}
	state := owed.First(l.terms)
	ahead := l.events
	for d := l.terms.Start; d < day; d++ {
		count := countOfDay(ahead, d)
		var amounts owed.Amounts
		state, amounts = state.Pass(l.terms, d, ahead[:count])
		l.book.PutRight(d, amounts)
		ahead = ahead[count:]
	}
	l.now = state.Balance(day)
	return api.OK
}

// Balance tells what the loan owes (P6).
func (l *Loan) Balance() api.Balance {
	return l.now
}

// Book tells the entries that were written (P7).
func (l *Loan) Book(from int) []api.Entry {
	return l.book.From(from)
}

// Accounts tells what the book makes of the accounts (P7).
func (l *Loan) Accounts() []int {
	accounts := l.book.Accounts()
	return accounts[:]
}

// Save tells the loan as text (P8).
func (l *Loan) Save() string {
	var w lines.Writer
	w.Write(loanWord, termsNumbers(&l.terms)...)
	for _, e := range l.events {
		w.Write(eventWord, eventNumbers(&e)...)
	}
	w.Write(atWord, &l.now.Day)
	w.Write(nowWord, owedNumbers(&l.now)...)
	for _, e := range l.book.From(0) {
		w.Write(entryWord, entryNumbers(&e)...)
	}
	w.Write(endWord)
	return w.Text()
}

// Load makes a loan of a text (P8). Whether what it owes and its book agree
// with its events is not asked: the next Run goes through all days anew.
func Load(text string) (*Loan, api.Errno) {
	l, ok := readLoan(lines.NewReader(text))
	if !ok {
		return nil, api.ErrText
	}
	return l, api.OK
}
