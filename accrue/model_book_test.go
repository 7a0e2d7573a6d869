package accrue_test

import (
	"math/rand"
	"slices"
	"testing"

	"accrue/accrue"
	"accrue/api"
)

// dayAndKind is what an entry speaks of: its day and its kind.
type dayAndKind [2]int

func sumsOf(entries []api.Entry) map[dayAndKind]int {
	sums := map[dayAndKind]int{}
	for _, e := range entries {
		sums[dayAndKind{e.Day, e.Kind}] += e.Amount
	}
	return sums
}

// modelBook tells what a book becomes by one run with these events: what is
// there is summed up anew from its entries.
func modelBook(book []api.Entry, terms api.Terms, events []api.Event, to int) []api.Entry {
	sums := sumsOf(book)
	m := newModel(terms)
	for day := terms.Start; day < to; day++ {
		m.pass(day, events)
		for kind := 1; kind <= 12; kind++ {
			is, must := sums[dayAndKind{day, kind}], m.entries[kind]
			if is != must && is != 0 {
				book = append(book, api.Entry{Day: day, Kind: kind, Amount: -is})
			}
			if is != must && must != 0 {
				book = append(book, api.Entry{Day: day, Kind: kind, Amount: must})
			}
		}
	}
	return book
}

// wantSums asks that a book says in sum what another one says.
func wantSums(t *testing.T, loan *accrue.Loan, other []api.Entry) {
	t.Helper()
	got, want := sumsOf(loan.Book(0)), sumsOf(other)
	for key, sum := range got {
		if sum != want[key] {
			t.Errorf("day and kind %v: %d in sum, want %d", key, sum, want[key])
		}
	}
	for key, sum := range want {
		if sum != got[key] {
			t.Errorf("day and kind %v: %d in sum, want %d", key, got[key], sum)
		}
	}
}

// Events come and go between runs: after each of these the book is the model's, to the last entry, and in sum what it would be if all had been known.
func TestBooksAgainstTheModel(t *testing.T) {
	r := rand.New(rand.NewSource(4))
	for range 150 {
		terms := someTerms(r)
		span := 1 + r.Intn(150)
		loan := open(t, terms)
		var told []api.Event
		var book []api.Entry
		day := terms.Start
		for _, e := range someEvents(r, terms, span) {
			add(t, loan, e)
			told = append(told, e)
			if r.Intn(4) == 0 {
				gone := r.Intn(len(told))
				wantCancel(t, loan, told[gone].Seq, api.OK)
				told = slices.Delete(told, gone, gone+1)
			}
			if r.Intn(3) > 0 {
				continue
			}
			day += r.Intn(terms.Start + span - day + 1)
			run(t, loan, day)
			book = modelBook(book, terms, told, day)
			wantBook(t, loan, 0, book...)
			wantSums(t, loan, modelBook(nil, terms, told, day))
			wantAccountsAgree(t, loan)
			if t.Failed() {
				t.Fatalf("terms %+v, events %+v, day %d", terms, told, day)
			}
		}
	}
}

// If no event of a day that was gone through comes or goes in between, many runs write what one does.
func TestTheBookOfOneRunAgainstMany(t *testing.T) {
	r := rand.New(rand.NewSource(5))
	for range 100 {
		terms := someTerms(r)
		span := 1 + r.Intn(400)
		events := someEvents(r, terms, span)
		once := open(t, terms, events...)
		run(t, once, terms.Start+span)
		wantBook(t, once, 0, modelBook(nil, terms, events, terms.Start+span)...)

		// Told ahead of all runs, or each on its own day, ahead of the run through it.
		ahead, justInTime := open(t, terms, events...), open(t, terms)
		step := 1 + r.Intn(60)
		for day := terms.Start; day < terms.Start+span; day++ {
			if (day-terms.Start)%step == 0 {
				run(t, ahead, day)
			}
			run(t, justInTime, day)
			for _, e := range events {
				if e.Day == day {
					add(t, justInTime, e)
				}
			}
		}
		for _, loan := range []*accrue.Loan{ahead, justInTime} {
			run(t, loan, terms.Start+span)
			wantBalance(t, loan, once.Balance())
			wantBook(t, loan, 0, once.Book(0)...)
			wantAccounts(t, loan, once.Accounts()...)
		}
		if t.Failed() {
			t.Fatalf("terms %+v, events %+v", terms, events)
		}
	}
}

// Told late, taken back, told again: by day and kind the book is what it would be if all had been known.
func TestTheBookOfWhatIsToldLate(t *testing.T) {
	r := rand.New(rand.NewSource(6))
	for range 100 {
		terms := someTerms(r)
		span := 1 + r.Intn(400)
		events := someEvents(r, terms, span)
		known := open(t, terms, events...)
		run(t, known, terms.Start+span)
		late := open(t, terms)
		toldOnTheWay(t, r, late, events, terms.Start, terms.Start+span)
		run(t, late, terms.Start+span)
		wantBalance(t, late, known.Balance())
		wantSums(t, late, known.Book(0))
		wantAccounts(t, late, known.Accounts()...)
		wantAccountsAgree(t, late)
		if t.Failed() {
			t.Fatalf("terms %+v, events %+v", terms, events)
		}
	}
}

// The greatest amounts, over all days that a loan may have.
func TestTheGreatestBook(t *testing.T) {
	terms := api.Terms{Start: api.MaxDay - api.MaxSpan, Principal: api.MaxAmount, Rate: api.MaxRate, Fine: api.MaxRate, Basis: api.Thirty360, Due: 28}
	var events []api.Event
	for i := range api.MaxEvents / 2 {
		events = append(events, api.Event{Day: terms.Start, Kind: api.Draw, Seq: i, Amount: api.MaxAmount})
		events = append(events, api.Event{Day: terms.Start + 180*(i+1), Kind: api.Capital, Seq: -1 - i})
	}
	loan := open(t, terms, events...)
	run(t, loan, api.MaxDay)
	book := modelBook(nil, terms, events, api.MaxDay)
	wantBook(t, loan, 0, book...)
	wantAccountsAgree(t, loan)
	for _, e := range events {
		wantCancel(t, loan, e.Seq, api.OK)
	}
	run(t, loan, api.MaxDay)
	wantBook(t, loan, 0, modelBook(book, terms, nil, api.MaxDay)...)
	wantAccountsAgree(t, loan)
}
