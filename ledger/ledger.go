// Package ledger is a loan's book: what was written into it stays, and what
// was wrong is put right by more entries.
package ledger

import (
	"accrue/api"
	"accrue/owed"
)

// slot is what an entry speaks of.
type slot struct {
	day, kind int
}

// Book is what was written, in order, and its sums.
type Book struct {
	entries []api.Entry
	sums    map[slot]int
}

// New is a book in which nothing was written.
func New() *Book {
	return &Book{sums: map[slot]int{}}
}

// PutRight writes what it takes for the book to say of a day, in sum, what the
// amounts say.
func (b *Book) PutRight(day int, amounts owed.Amounts) {
	for kind := api.Lent; kind <= api.Fined; kind++ {
		there := b.sums[slot{day, kind}]
		if there == amounts[kind] {
			continue
		}
		b.Write(api.Entry{Day: day, Kind: kind, Amount: -there})
		b.Write(api.Entry{Day: day, Kind: kind, Amount: amounts[kind]})
	}
}

// Write is the one way into the book, so that entries and sums can't come to
// differ. What says nothing is not written. (A sum may wrap round.)
func (b *Book) Write(e api.Entry) {
	if e.Amount == 0 {
		return
	}
	b.entries = append(b.entries, e)
	b.sums[slot{e.Day, e.Kind}] += e.Amount
}

// From tells the entries from a number on; the first one has number 0.
func (b *Book) From(number int) []api.Entry {
	behind := b.entries[min(max(number, 0), len(b.entries)):]
	told := make([]api.Entry, len(behind))
	copy(told, behind)
	return told
}

// Accounts tells what all entries make of the accounts.
func (b *Book) Accounts() owed.Accounts {
	var accounts owed.Accounts
	for _, e := range b.entries {
		accounts.Move(e.Kind, e.Amount)
	}
	return accounts
}
