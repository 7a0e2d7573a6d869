package accrue_test

import (
	"math"
	"math/rand"
	"slices"
	"testing"

	"accrue/accrue"
	"accrue/api"
)

// wantAlike asks that two loans tell the same in every way.
func wantAlike(t *testing.T, one, other *accrue.Loan) {
	t.Helper()
	wantSave(t, one, other.Save())
	wantBalance(t, one, other.Balance())
	wantBook(t, one, 0, other.Book(0)...)
	wantAccounts(t, one, other.Accounts()...)
}

func TestSavedLoadedAndSavedAgain(t *testing.T) {
	loan := open(t, withFine(), on(3, api.Pay, 2500), on(20, api.Holiday, 5), on(50, api.Draw, 900), on(60, api.Capital, 0))
	for _, days := range []int{0, 1, 3, 4, 14, 15, 46, 47, 100, 3700} {
		run(t, loan, start+days)
		wantAlike(t, load(t, loan.Save()), loan)
		add(t, loan, api.Event{Day: start + days/2, Kind: api.Pay, Seq: -days, Amount: 7})
		wantAlike(t, load(t, loan.Save()), loan)
		wantCancel(t, loan, -days, api.OK)
		wantAlike(t, load(t, loan.Save()), loan)
	}
}

// The last part of the rest of a cent is not in the text: it must be found again by the next run.
func TestWhatTheTextDoesNotTellIsFoundAgain(t *testing.T) {
	terms := api.Terms{Start: start, Principal: 1000, Rate: 10000, Fine: 10000, Basis: api.Actual365, Due: 28}
	loan := open(t, terms, on(20, api.Holiday, 60))
	other := open(t, terms, on(20, api.Holiday, 60))
	for days := 1; days <= 300; days++ {
		run(t, loan, start+days)
		loan = load(t, loan.Save())
	}
	run(t, other, start+300)
	wantAlike(t, loan, other)
}

// A loan that was loaded answers each call as the one that was saved does.
func TestALoadedLoanGoesOn(t *testing.T) {
	r := rand.New(rand.NewSource(7))
	for range 150 {
		terms := someTerms(r)
		span := 1 + r.Intn(150)
		saved := open(t, terms)
		loaded := load(t, saved.Save())
		for _, e := range someEvents(r, terms, span) {
			if x, y := saved.Add(e), loaded.Add(e); x != y {
				t.Errorf("Add(%+v): %d, of the loaded loan %d", e, x, y)
			}
			if seq := r.Intn(1000) - 500; r.Intn(3) == 0 {
				if x, y := saved.Cancel(seq), loaded.Cancel(seq); x != y {
					t.Errorf("Cancel(%d): %d, of the loaded loan %d", seq, x, y)
				}
			}
			if day := terms.Start + r.Intn(span+1); r.Intn(2) == 0 {
				if x, y := saved.Run(day), loaded.Run(day); x != y {
					t.Errorf("Run(%d): %d, of the loaded loan %d", day, x, y)
				}
			}
			wantAlike(t, loaded, saved)
			if r.Intn(3) == 0 {
				loaded = load(t, saved.Save())
			}
			if t.Failed() {
				t.Fatalf("terms %+v", terms)
			}
		}
	}
}

func TestALoadedLoanRefusesWhatTheSavedOneDoes(t *testing.T) {
	saved := open(t, plain)
	fill(t, saved)
	run(t, saved, start+20)
	loan := load(t, saved.Save())
	wantAdd(t, loan, api.Event{Day: start, Kind: 0, Seq: 1, Amount: 0}, api.ErrKind)
	wantAdd(t, loan, api.Event{Day: start - 1, Kind: api.Pay, Seq: 1, Amount: 0}, api.ErrDay)
	wantAdd(t, loan, api.Event{Day: start, Kind: api.Pay, Seq: 1, Amount: 0}, api.ErrAmount)
	wantAdd(t, loan, api.Event{Day: start, Kind: api.Pay, Seq: 1, Amount: 1}, api.ErrMany)
	wantCancel(t, loan, 41, api.ErrNone)
	wantRun(t, loan, start+19, api.ErrDay)
	wantRun(t, loan, start+3701, api.ErrDay)
	wantAlike(t, loan, saved)
	wantCancel(t, loan, 7, api.OK)
	wantAdd(t, loan, api.Event{Day: start, Kind: api.Pay, Seq: 1, Amount: 1}, api.ErrSeq)
	add(t, loan, api.Event{Day: start, Kind: api.Pay, Seq: 7, Amount: 1})
}

// No call on one of several loans of one text changes what another one answers.
func TestLoadedLoansAreApart(t *testing.T) {
	saved := open(t, withFine(), on(3, api.Pay, 2500), on(20, api.Rate, 50000))
	run(t, saved, start+50)
	text := saved.Save()
	change := func(loan *accrue.Loan) {
		wantCancel(t, loan, on(3, api.Pay, 2500).Seq, api.OK)
		add(t, loan, on(1, api.Draw, 77))
		run(t, loan, start+60)
		spoil(loan.Book(0), api.Entry{Day: 9, Kind: 9, Amount: 9})
		spoil(loan.Accounts(), 9)
	}
	for changed := range 3 {
		one := load(t, text)
		loans := []*accrue.Loan{one, load(t, text), load(t, one.Save())}
		change(loans[changed])
		for i, loan := range loans {
			if i != changed {
				wantAlike(t, loan, saved)
				run(t, loan, start+50)
				wantAlike(t, loan, saved)
			}
		}
	}
	one := load(t, text)
	change(saved)
	wantSave(t, one, text)
	change(one)
	wantAlike(t, one, saved)
}

func TestListsOfALoadedLoanAreNew(t *testing.T) {
	loan := load(t, textOf(someLines()...))
	want, accounts := slices.Clone(loan.Book(0)), slices.Clone(loan.Accounts())
	for from := -1; from <= len(want)+1; from++ {
		spoil(loan.Book(from), api.Entry{Day: 9, Kind: 9, Amount: 9})
		spoil(loan.Accounts(), 9)
		wantBook(t, loan, 0, want...)
		wantAccounts(t, loan, accounts...)
	}
	held := loan.Book(0)
	run(t, loan, start+50)
	if !slices.Equal(held, want) {
		t.Errorf("a run changed a list that came out: %v", held)
	}
	wantBook(t, loan, -1, loan.Book(0)...)
	wantBook(t, loan, 1, loan.Book(0)[1:]...)
	wantBook(t, loan, math.MaxInt)
}

// Balance and book say what the events do not: they stand till the next run, to the loan's own day too, which puts them right.
func TestABalanceAndABookThatDoNotAgree(t *testing.T) {
	text := textOf("loan 36524 36500000 10000 0 1 15", "event 36525 5 1 500", "at 36527", "now 1 2 3 4 5 6 7",
		"entry 36526 12 8", "entry 36525 11 1000", "entry 36524 1 5", "entry 36524 1 -7", "entry 36524 10 -9", "entry 36525 8 499", "end")
	right := api.Balance{Principal: 36500000, Interest: 2500, Rate: 10000, Day: 36527}
	written := []api.Entry{
		entry(0, api.Lent, 2), entry(0, api.Lent, 36500000), entry(0, api.Overpaid, 9), entry(0, api.Earned, 1000),
		entry(1, api.PaidInterest, -499), entry(1, api.PaidInterest, 500),
		entry(2, api.Earned, 1000), entry(2, api.Fined, -8),
	}
	loan := load(t, text)
	wantBalance(t, loan, api.Balance{Principal: 1, Interest: 2, Due: 3, Late: 4, Fine: 5, Credit: 6, Rate: 7, Day: 36527})
	wantAccounts(t, loan, 2-9+499, -2, 1000-499, 0, 0, 8, 9, -1000, -8)
	wantWritten(t, loan, 36527, written...)
	wantBalance(t, loan, right)
	wantAccountsAgree(t, loan)
	wantWritten(t, loan, 36527)

	// Put right on the way to a later day.
	loan = load(t, text)
	wantWritten(t, loan, 36529, append(written, entry(3, api.Earned, 1000), entry(4, api.Earned, 1000))...)
	wantBalance(t, loan, api.Balance{Principal: 36500000, Interest: 4500, Rate: 10000, Day: 36529})
	wantAccountsAgree(t, loan)
}

// A refused run, an event told or taken back: none puts right what does not agree.
func TestOnlyRunPutsALoadedLoanRight(t *testing.T) {
	loan := load(t, textOf(someLines()...))
	before, book := loan.Balance(), loan.Book(0)
	wantRun(t, loan, 36526, api.ErrDay)
	wantRun(t, loan, 40225, api.ErrDay)
	add(t, loan, on(1, api.Draw, 7))
	wantCancel(t, loan, 9, api.OK)
	wantBalance(t, loan, before)
	wantBook(t, loan, 0, book...)
}

// Sums that wrap round at 64 bits: what they come to is taken back, and what comes to the right sum stays.
func TestSumsOfALoadedBookThatWrapRound(t *testing.T) {
	const least, greatest = math.MinInt, math.MaxInt
	lent, earned := entry(0, api.Lent, 36500000), entry(0, api.Earned, 1000)
	for _, c := range []struct {
		there   []int
		written []api.Entry
	}{
		{[]int{greatest}, entries(entry(0, api.Lent, -greatest), lent)},
		{[]int{least}, entries(entry(0, api.Lent, least), lent)},
		{[]int{greatest, 1}, entries(entry(0, api.Lent, least), lent)},
		{[]int{greatest, greatest}, entries(entry(0, api.Lent, 2), lent)},
		{[]int{least, -1}, entries(entry(0, api.Lent, -greatest), lent)},
		{[]int{least, least}, entries(lent)},
		{[]int{greatest, greatest, 2}, entries(lent)},
		{[]int{greatest, greatest, 2 + 36500000}, nil},
		{[]int{least, 36500000, least}, nil},
		{[]int{greatest, 1, least, 36500001}, entries(entry(0, api.Lent, -36500001), lent)},
	} {
		lines := []string{"loan 36524 36500000 10000 0 1 15", "at 36525", "now 0 0 0 0 0 0 0"}
		sum := 0
		for _, amount := range c.there {
			lines = append(lines, entryLine(start, api.Lent, amount))
			sum += amount
		}
		loan := load(t, textOf(append(lines, "end")...))
		wantAccounts(t, loan, -sum, sum, 0, 0, 0, 0, 0, 0, 0)
		wantWritten(t, loan, start+1, append(c.written, earned)...)
		wantBalance(t, loan, api.Balance{Principal: 36500000, Interest: 1000, Rate: 10000, Day: start + 1})
		wantAccountsAgree(t, loan)
		wantAlike(t, load(t, loan.Save()), loan)
		wantWritten(t, loan, start+1)
	}
}

func entries(list ...api.Entry) []api.Entry {
	return list
}

// Several kinds meet in one account, which wraps round though no sum of a day and a kind does.
func TestAccountsOfALoadedBookThatWrapRound(t *testing.T) {
	const least, greatest = math.MinInt, math.MaxInt
	loan := load(t, withEntries(entryLine(start, api.Lent, greatest), entryLine(start+1, api.Lent, greatest), entryLine(start, api.Capitalised, 5)))
	wantAccounts(t, loan, 2, 3, -5, 0, 0, 0, 0, 0, 0)
	loan = load(t, withEntries(entryLine(start, api.Earned, least), entryLine(start, api.PaidInterest, least)))
	wantAccounts(t, loan, least, 0, 0, 0, 0, 0, 0, least, 0)
	loan = load(t, withEntries(entryLine(start, api.Fined, least)))
	wantAccounts(t, loan, 0, 0, 0, 0, 0, least, 0, 0, least)
	run(t, loan, start+3)
	wantAccountsAgree(t, loan)
}
