package accrue

import (
	"accrue/api"
	"accrue/lines"
)

// The words at the heads of a text's lines.
const (
	loanWord  = "loan"
	eventWord = "event"
	atWord    = "at"
	nowWord   = "now"
	entryWord = "entry"
	endWord   = "end"
)

// The numbers of a line stand in one list for Save and for Load, so that what
// the one tells and what the other reads can't come to differ.

func termsNumbers(t *api.Terms) []*int {
	return []*int{&t.Start, &t.Principal, &t.Rate, &t.Fine, &t.Basis, &t.Due}
}

func eventNumbers(e *api.Event) []*int {
	return []*int{&e.Day, &e.Kind, &e.Seq, &e.Amount}
}

// owedNumbers leaves out the Day: it has a line of its own.
func owedNumbers(b *api.Balance) []*int {
	return []*int{&b.Principal, &b.Interest, &b.Due, &b.Late, &b.Fine, &b.Credit, &b.Rate}
}

func entryNumbers(e *api.Entry) []*int {
	return []*int{&e.Day, &e.Kind, &e.Amount}
}

// readLoan reads a whole text.
func readLoan(r *lines.Reader) (*Loan, bool) {
	var t api.Terms
	if !r.Read(loanWord, termsNumbers(&t)...) {
		return nil, false
	}
	l, fault := Open(t)
	if fault != api.OK {
		return nil, false
	}
	ok := l.readEvents(r) && l.readNow(r) && l.readBook(r) && r.Read(endWord) && r.AtEnd()
	return l, ok
}

func (l *Loan) readEvents(r *lines.Reader) bool {
	var e api.Event
	for r.Read(eventWord, eventNumbers(&e)...) {
		if l.Add(e) != api.OK {
			return false
		}
		// Add puts an event where it belongs: in a text in order, that is last.
		if l.events[len(l.events)-1] != e {
			return false
		}
	}
	return true
}

func (l *Loan) readNow(r *lines.Reader) bool {
	return r.Read(atWord, &l.now.Day) && span(l.terms).allow(l.now.Day) &&
		r.Read(nowWord, owedNumbers(&l.now)...)
}

func (l *Loan) readBook(r *lines.Reader) bool {
	var e api.Entry
	for r.Read(entryWord, entryNumbers(&e)...) {
		if !l.rightEntry(e) {
			return false
		}
		l.book.Write(e)
	}
	return true
}

// rightEntry tells whether an entry could stand in the book of a loan that is
// at this day.
func (l *Loan) rightEntry(e api.Entry) bool {
	return limits{l.terms.Start, l.now.Day - 1}.allow(e.Day) &&
		limits{api.Lent, api.Fined}.allow(e.Kind) &&
		e.Amount != 0
}
