package accrue_test

import (
	"math"
	"slices"
	"testing"

	"accrue/accrue"
	"accrue/api"
)

func wantBook(t *testing.T, loan *accrue.Loan, from int, want ...api.Entry) {
	t.Helper()
	if got := loan.Book(from); !slices.Equal(got, want) {
		t.Errorf("Book(%d):\n got %v\nwant %v", from, got, want)
	}
}

// entry makes an entry some days behind the start.
func entry(days, kind, amount int) api.Entry {
	return api.Entry{Day: start + days, Kind: kind, Amount: amount}
}

// earned lists entries of 1000 earned, of the days from the one up to the one ahead of the other.
func earned(from, to int) []api.Entry {
	var entries []api.Entry
	for d := from; d < to; d++ {
		entries = append(entries, entry(d, api.Earned, 1000))
	}
	return entries
}

// wantWritten runs a loan to a day, and asks what this run wrote.
func wantWritten(t *testing.T, loan *accrue.Loan, day int, want ...api.Entry) {
	t.Helper()
	before := loan.Book(0)
	run(t, loan, day)
	wantBook(t, loan, len(before), want...)
	if after := loan.Book(0); len(after) < len(before) || !slices.Equal(after[:len(before)], before) {
		t.Errorf("Run(%d) changed what was written:\n was %v\n now %v", day, before, after)
	}
}

func TestTheDocumentsBook(t *testing.T) {
	loan := open(t, plain)
	wantBook(t, loan, 0)
	run(t, loan, 36526)
	wantBook(t, loan, 0,
		api.Entry{Day: 36524, Kind: 1, Amount: 36500000},
		api.Entry{Day: 36524, Kind: 11, Amount: 1000},
		api.Entry{Day: 36525, Kind: 11, Amount: 1000})
	wantWritten(t, loan, 36539, append(earned(2, 14), entry(14, api.Fallen, 14000), entry(14, api.Earned, 1000))...)
	add(t, loan, api.Event{Day: 36525, Kind: api.Pay, Amount: 500})
	wantWritten(t, loan, 36539,
		api.Entry{Day: 36525, Kind: 8, Amount: 500},
		api.Entry{Day: 36538, Kind: 3, Amount: -14000},
		api.Entry{Day: 36538, Kind: 3, Amount: 13500})
}

// wantOfDay asks what is written of the day behind some days, if its events were known ahead.
func wantOfDay(t *testing.T, events []api.Event, days int, want ...api.Entry) {
	t.Helper()
	loan := open(t, withFine(), events...)
	run(t, loan, start+days)
	wantWritten(t, loan, start+days+1, want...)
}

func TestEachKindOfEntry(t *testing.T) {
	wantOfDay(t, nil, 0, entry(0, api.Lent, 36500000), entry(0, api.Earned, 1000))
	wantOfDay(t, nil, 1, entry(1, api.Earned, 1000))
	wantOfDay(t, nil, 14, entry(14, api.Fallen, 14000), entry(14, api.Earned, 1000))
	wantOfDay(t, nil, 45, entry(45, api.Overdue, 14000), entry(45, api.Fallen, 31000), entry(45, api.Earned, 1000), entry(45, api.Fined, 14))
	wantOfDay(t, list(on(2, api.Draw, 36500000)), 2, entry(2, api.Lent, 36500000), entry(2, api.Earned, 2000))
	wantOfDay(t, list(on(2, api.Rate, 30000)), 2, entry(2, api.Earned, 3000))
	wantOfDay(t, list(on(2, api.Rate, 0)), 2)
	wantOfDay(t, list(on(13, api.Holiday, 2)), 13, entry(13, api.Earned, 1000))
	wantOfDay(t, list(on(13, api.Holiday, 2)), 14, entry(14, api.Earned, 1000))
	wantOfDay(t, list(on(2, api.Capital, 0)), 2, entry(2, api.Capitalised, 2000), entry(2, api.Earned, 1000))
	wantOfDay(t, list(on(0, api.Capital, 0)), 0, entry(0, api.Lent, 36500000), entry(0, api.Earned, 1000))
	// Each as far as it goes: what is owed on day 46 is 14, 14000, 31000, 1000, 36500000.
	wantOfDay(t, list(on(46, api.Pay, 9)), 46, entry(46, api.PaidFine, 9), entry(46, api.Earned, 1000), entry(46, api.Fined, 14))
	wantOfDay(t, list(on(46, api.Pay, 14+14000)), 46, entry(46, api.PaidFine, 14), entry(46, api.PaidLate, 14000), entry(46, api.Earned, 1000))
	wantOfDay(t, list(on(46, api.Pay, 14+14000+31000+1000+36500000+3)), 46,
		entry(46, api.PaidFine, 14), entry(46, api.PaidLate, 14000), entry(46, api.PaidDue, 31000),
		entry(46, api.PaidInterest, 1000), entry(46, api.PaidPrincipal, 36500000), entry(46, api.Overpaid, 3))
	wantOfDay(t, list(on(0, api.Pay, 36500001)), 0, entry(0, api.Lent, 36500000), entry(0, api.PaidPrincipal, 36500000), entry(0, api.Overpaid, 1))
}

// What falls due is written ahead of what is paid, though the events tell of it in other order; a day's kinds rise.
func TestSeveralKindsOnOneDay(t *testing.T) {
	wantOfDay(t, list(on(45, api.Pay, 14000+31000+36500000+7), on(45, api.Capital, 0), on(45, api.Draw, 36500000)), 45,
		entry(45, api.Lent, 36500000), entry(45, api.Overdue, 14000), entry(45, api.Fallen, 31000),
		entry(45, api.PaidLate, 14000), entry(45, api.PaidDue, 31000), entry(45, api.PaidPrincipal, 36500007),
		entry(45, api.Earned, 999))
}

func TestSeveralEntriesOfOneKindOnOneDay(t *testing.T) {
	loan := open(t, plain,
		api.Event{Day: start, Kind: api.Pay, Seq: 4, Amount: 4}, api.Event{Day: start, Kind: api.Pay, Seq: 3, Amount: 3},
		api.Event{Day: start, Kind: api.Draw, Seq: 2, Amount: 2}, api.Event{Day: start, Kind: api.Draw, Seq: 1, Amount: 1})
	wantWritten(t, loan, start+1, entry(0, api.Lent, 36500003), entry(0, api.PaidPrincipal, 7), entry(0, api.Earned, 999))
	// One of the several is gone, or more come: the whole sum is taken back.
	wantCancel(t, loan, 2, api.OK)
	wantWritten(t, loan, start+1, entry(0, api.Lent, -36500003), entry(0, api.Lent, 36500001))
	add(t, loan, api.Event{Day: start, Kind: api.Pay, Seq: 5, Amount: 5})
	wantWritten(t, loan, start+1, entry(0, api.PaidPrincipal, -7), entry(0, api.PaidPrincipal, 12))
}

// Taken back and said anew, taken back alone, and said for the first time: by rising days, of one day by rising kinds.
func TestTheBookIsPutRightInOrder(t *testing.T) {
	loan := open(t, withFine())
	run(t, loan, start+47)
	pay := on(20, api.Pay, 14500)
	add(t, loan, pay)
	wantWritten(t, loan, start+47,
		entry(20, api.PaidDue, 14000), entry(20, api.PaidInterest, 500),
		entry(45, api.Overdue, -14000), entry(45, api.Fallen, -31000), entry(45, api.Fallen, 30500), entry(45, api.Fined, -14),
		entry(46, api.Fined, -14))
	wantCancel(t, loan, pay.Seq, api.OK)
	wantWritten(t, loan, start+47,
		entry(20, api.PaidDue, -14000), entry(20, api.PaidInterest, -500),
		entry(45, api.Overdue, 14000), entry(45, api.Fallen, -30500), entry(45, api.Fallen, 31000), entry(45, api.Fined, 14),
		entry(46, api.Fined, 14))
	// Again: what was taken back alone is there no more, to be taken back once more.
	add(t, loan, pay)
	wantWritten(t, loan, start+47,
		entry(20, api.PaidDue, 14000), entry(20, api.PaidInterest, 500),
		entry(45, api.Overdue, -14000), entry(45, api.Fallen, -31000), entry(45, api.Fallen, 30500), entry(45, api.Fined, -14),
		entry(46, api.Fined, -14))
}

// An event that is cancelled, and no later day goes otherwise for it: its entry is taken back, and nothing else.
func TestWhatIsTakenBackAlone(t *testing.T) {
	loan := open(t, plain, on(3, api.Pay, 36503000), on(3, api.Draw, 4))
	run(t, loan, start+3)
	wantWritten(t, loan, start+4, entry(3, api.Lent, 4), entry(3, api.PaidInterest, 3000), entry(3, api.PaidPrincipal, 36500000))
	over := on(5, api.Pay, 77)
	add(t, loan, over)
	wantWritten(t, loan, start+8, entry(5, api.PaidPrincipal, 4), entry(5, api.Overpaid, 73))
	wantCancel(t, loan, over.Seq, api.OK)
	wantWritten(t, loan, start+8, entry(5, api.PaidPrincipal, -4), entry(5, api.Overpaid, -73))
	wantWritten(t, loan, start+8)
}

// One run puts the days behind it right, then goes on.
func TestOneRunPutsRightAndGoesOn(t *testing.T) {
	loan := open(t, plain)
	run(t, loan, start+3)
	add(t, loan, on(1, api.Rate, 20000))
	add(t, loan, on(4, api.Draw, 5))
	wantWritten(t, loan, start+5,
		entry(1, api.Earned, -1000), entry(1, api.Earned, 2000), entry(2, api.Earned, -1000), entry(2, api.Earned, 2000),
		entry(3, api.Earned, 2000), entry(4, api.Lent, 5), entry(4, api.Earned, 2000))
}

func TestTheBookOfAHolidayToldLate(t *testing.T) {
	loan := open(t, withFine())
	run(t, loan, start+46)
	add(t, loan, on(13, api.Holiday, 2))
	wantWritten(t, loan, start+46,
		entry(14, api.Fallen, -14000),
		entry(45, api.Overdue, -14000), entry(45, api.Fallen, -31000), entry(45, api.Fallen, 45000), entry(45, api.Fined, -14))
}

// What comes to the same is not written once more.
func TestNothingIsWrittenTwice(t *testing.T) {
	pay := on(1, api.Pay, 500)
	loan := open(t, plain, pay)
	run(t, loan, start+20)
	wantWritten(t, loan, start+20)
	wantCancel(t, loan, pay.Seq, api.OK)
	wantBook(t, loan, len(loan.Book(0)))
	add(t, loan, pay)
	wantWritten(t, loan, start+20)
	wantCancel(t, loan, pay.Seq, api.OK)
	add(t, loan, api.Event{Day: start + 1, Kind: api.Pay, Seq: -7, Amount: 200})
	add(t, loan, api.Event{Day: start + 1, Kind: api.Pay, Seq: 7, Amount: 300})
	wantWritten(t, loan, start+20)
	add(t, loan, on(5, api.Rate, 10000))
	add(t, loan, on(16, api.Holiday, 3))
	wantWritten(t, loan, start+20)
}

func TestARunToTheLoansOwnDay(t *testing.T) {
	loan := open(t, plain)
	wantWritten(t, loan, start)
	add(t, loan, on(0, api.Draw, 1))
	wantWritten(t, loan, start)
	run(t, loan, start+2)
	wantWritten(t, loan, start+2)
	// What happens on the day itself is not yet in the book; what happened ahead of it is.
	add(t, loan, on(2, api.Pay, 5))
	wantWritten(t, loan, start+2)
	add(t, loan, on(1, api.Capital, 0))
	wantWritten(t, loan, start+2, entry(1, api.Capitalised, 1000))
	wantWritten(t, loan, start+3, entry(2, api.PaidInterest, 5), entry(2, api.Earned, 1000))
}

func TestARefusedRunWritesNothing(t *testing.T) {
	loan := open(t, plain)
	for _, day := range []int{start - 1, start + 3701, math.MinInt, math.MaxInt} {
		wantRun(t, loan, day, api.ErrDay)
		wantBook(t, loan, 0)
	}
	run(t, loan, start+3)
	before, accounts := loan.Book(0), loan.Accounts()
	add(t, loan, on(1, api.Pay, 500))
	for _, day := range []int{start + 2, start, start - 1, start + 3701, math.MinInt, math.MaxInt} {
		wantRun(t, loan, day, api.ErrDay)
	}
	wantAdd(t, loan, on(1, api.Pay, 500), api.ErrSeq)
	wantAdd(t, loan, on(1, 0, 500), api.ErrKind)
	wantCancel(t, loan, 5, api.ErrNone)
	wantBook(t, loan, 0, before...)
	wantAccounts(t, loan, accounts...)
	wantWritten(t, loan, start+3, entry(1, api.PaidInterest, 500))
}

// Add and Cancel by themselves write nothing: the next Run does.
func TestOnlyRunWrites(t *testing.T) {
	loan := open(t, plain, on(1, api.Pay, 500))
	wantBook(t, loan, 0)
	run(t, loan, start+3)
	before := loan.Book(0)
	wantCancel(t, loan, on(1, api.Pay, 500).Seq, api.OK)
	add(t, loan, on(0, api.Draw, 1))
	wantBook(t, loan, 0, before...)
}

func TestBookFromAnyNumber(t *testing.T) {
	loan := open(t, plain)
	for _, from := range []int{math.MinInt, -1, 0, 1, math.MaxInt} {
		wantBook(t, loan, from)
	}
	run(t, loan, start+3)
	all := []api.Entry{entry(0, api.Lent, 36500000), entry(0, api.Earned, 1000), entry(1, api.Earned, 1000), entry(2, api.Earned, 1000)}
	for _, from := range []int{math.MinInt, math.MinInt + 1, math.MinInt32, -5, -4, -1, 0} {
		wantBook(t, loan, from, all...)
	}
	for from := range 5 {
		wantBook(t, loan, from, all[from:]...)
	}
	for _, from := range []int{4, 5, 6, math.MaxInt32, 1 << 32, math.MaxInt - 1, math.MaxInt} {
		wantBook(t, loan, from)
	}
}

func TestALoanOfNothingHasAnEmptyBook(t *testing.T) {
	terms := plain
	terms.Principal = 0
	loan := open(t, terms, on(1, api.Capital, 0), on(2, api.Rate, 1000000), on(3, api.Holiday, 9))
	wantWritten(t, loan, start+3700)
	wantAccounts(t, loan, make([]int, 9)...)
}

// spoil writes over a list and all of its spare room.
func spoil[T any](list []T, with T) {
	list = list[:cap(list)]
	for i := range list {
		list[i] = with
	}
}

// What a caller does to a list that came out changes no other answer, and no run changes such a list.
func TestListsThatComeOutAreNew(t *testing.T) {
	loan := open(t, plain)
	var held [][]api.Entry
	var copies [][]api.Entry
	for days := range 60 {
		run(t, loan, start+days)
		want, accounts := slices.Clone(loan.Book(0)), slices.Clone(loan.Accounts())
		for _, from := range []int{-1, 0, 1, len(want) / 2, len(want) - 1, len(want), len(want) + 1} {
			other := loan.Book(0)
			spoil(loan.Book(from), api.Entry{Day: 9, Kind: 9, Amount: 9})
			spoil(loan.Accounts(), 9)
			if !slices.Equal(other, want) {
				t.Fatalf("two lists share memory: %v", other)
			}
			wantBook(t, loan, 0, want...)
			wantAccounts(t, loan, accounts...)
		}
		held, copies = append(held, loan.Book(0)), append(copies, want)
	}
	add(t, loan, on(0, api.Draw, 365))
	run(t, loan, start+60)
	for i := range held {
		if !slices.Equal(held[i], copies[i]) {
			t.Errorf("a run changed a list that came out: %v", held[i])
		}
	}
}

func TestTheBooksOfLoansAreApart(t *testing.T) {
	one, other := open(t, plain), open(t, plain)
	run(t, one, start+5)
	wantBook(t, other, 0)
	wantAccounts(t, other, make([]int, 9)...)
	wantWritten(t, other, start+1, entry(0, api.Lent, 36500000), entry(0, api.Earned, 1000))
	wantBook(t, one, 4, earned(3, 5)...)
}
