package accrue_test

import (
	"math"
	"testing"

	"accrue/accrue"
	"accrue/api"
)

func run(t *testing.T, loan *accrue.Loan, day int) {
	t.Helper()
	wantRun(t, loan, day, api.OK)
}

func wantRun(t *testing.T, loan *accrue.Loan, day int, want api.Errno) {
	t.Helper()
	if e := loan.Run(day); e != want {
		t.Errorf("Run(%d) = %d, want %d", day, e, want)
	}
}

// wantAt opens a loan, runs it to a day in one step, and asks what it owes.
func wantAt(t *testing.T, terms api.Terms, events []api.Event, day int, want api.Balance) {
	t.Helper()
	loan := open(t, terms, events...)
	run(t, loan, day)
	want.Day = day
	wantBalance(t, loan, want)
}

// on makes an event some days behind the start, with a Seq of its own.
func on(days, kind, amount int) api.Event {
	return api.Event{Day: start + days, Kind: kind, Seq: 1000*days + kind, Amount: amount}
}

func list(events ...api.Event) []api.Event {
	return events
}

// withFine is plain with a fine of a thousandth a day.
func withFine() api.Terms {
	terms := plain
	terms.Fine = 365000
	return terms
}

func TestTheDocumentsExample(t *testing.T) {
	loan := open(t, plain)
	run(t, loan, 36526)
	wantBalance(t, loan, api.Balance{Principal: 36500000, Interest: 2000, Rate: 10000, Day: 36526})
	run(t, loan, 36539)
	wantBalance(t, loan, api.Balance{Principal: 36500000, Interest: 1000, Due: 14000, Rate: 10000, Day: 36539})
	add(t, loan, api.Event{Day: 36525, Kind: api.Pay, Amount: 500})
	run(t, loan, 36539)
	wantBalance(t, loan, api.Balance{Principal: 36500000, Interest: 1000, Due: 13500, Rate: 10000, Day: 36539})
}

func TestRunToDaysThatCantBe(t *testing.T) {
	for _, first := range []int{0, start, api.MaxDay - api.MaxSpan} {
		terms := plain
		terms.Start = first
		loan := open(t, terms)
		wantRun(t, loan, first-1, api.ErrDay)
		run(t, loan, first+10)
		before := loan.Balance()
		for _, day := range []int{first + 9, first, first - 1, -1, first + 3701, api.MaxDay + 1, math.MinInt, math.MaxInt} {
			wantRun(t, loan, day, api.ErrDay)
		}
		wantBalance(t, loan, before)
		run(t, loan, first+10)
		wantBalance(t, loan, before)
		run(t, loan, first+3700)
		wantRun(t, loan, first+3699, api.ErrDay)
		wantRun(t, loan, first+3701, api.ErrDay)
		run(t, loan, first+3700)
	}
}

// The day that the loan is brought to is not gone through itself.
func TestTheLoansOwnDayIsNotGoneThrough(t *testing.T) {
	loan := open(t, plain, on(0, api.Rate, 20000), on(2, api.Rate, 30000))
	run(t, loan, start)
	wantBalance(t, loan, api.Balance{Rate: 10000, Day: start})
	run(t, loan, start+2)
	wantBalance(t, loan, api.Balance{Principal: 36500000, Interest: 4000, Rate: 20000, Day: start + 2})
	run(t, loan, start+3)
	wantBalance(t, loan, api.Balance{Principal: 36500000, Interest: 7000, Rate: 30000, Day: start + 3})
	// Nor does what falls due on it fall due yet.
	wantAt(t, plain, nil, start+14, api.Balance{Principal: 36500000, Interest: 14000, Rate: 10000})
}

// Balance tells of the last Run, whatever was added or cancelled since.
func TestBalanceStandsTillTheNextRun(t *testing.T) {
	loan := open(t, plain, on(0, api.Draw, 5))
	wantBalance(t, loan, api.Balance{Rate: 10000, Day: start})
	run(t, loan, start+20)
	before := loan.Balance()
	add(t, loan, on(1, api.Rate, 0))
	wantCancel(t, loan, on(0, api.Draw, 5).Seq, api.OK)
	wantBalance(t, loan, before)
	wantRun(t, loan, start+19, api.ErrDay)
	wantBalance(t, loan, before)
	run(t, loan, start+20)
	wantBalance(t, loan, api.Balance{Principal: 36500000, Due: 1000, Rate: 0, Day: start + 20})
}

func TestEachKindOfEvent(t *testing.T) {
	wantAt(t, plain, list(on(2, api.Draw, 36500000)), start+4, api.Balance{Principal: 73000000, Interest: 6000, Rate: 10000})
	wantAt(t, plain, list(on(2, api.Rate, 20000)), start+4, api.Balance{Principal: 36500000, Interest: 6000, Rate: 20000})
	wantAt(t, plain, list(on(2, api.Rate, 0)), start+4, api.Balance{Principal: 36500000, Interest: 2000, Rate: 0})
	wantAt(t, plain, list(on(2, api.Holiday, 20)), start+15, api.Balance{Principal: 36500000, Interest: 15000, Rate: 10000})
	wantAt(t, plain, list(on(2, api.Capital, 0)), start+3, api.Balance{Principal: 36502000, Interest: 1000, Rate: 10000})
	wantAt(t, plain, list(on(2, api.Pay, 700)), start+4, api.Balance{Principal: 36500000, Interest: 3300, Rate: 10000})
}

// On Start the terms' principal is lent ahead of all events.
func TestEventsOfTheFirstDay(t *testing.T) {
	wantAt(t, plain, list(on(0, api.Pay, 36500000)), start+1, api.Balance{Rate: 10000})
	wantAt(t, plain, list(on(0, api.Draw, 36500000)), start+1, api.Balance{Principal: 73000000, Interest: 2000, Rate: 10000})
	wantAt(t, plain, list(on(0, api.Rate, 20000)), start+1, api.Balance{Principal: 36500000, Interest: 2000, Rate: 20000})
	wantAt(t, plain, list(on(0, api.Capital, 0)), start+1, api.Balance{Principal: 36500000, Interest: 1000, Rate: 10000})
	wantAt(t, plain, list(on(0, api.Holiday, 15)), start+15, api.Balance{Principal: 36500000, Interest: 15000, Rate: 10000})
	wantAt(t, plain, list(on(0, api.Holiday, 14)), start+15, api.Balance{Principal: 36500000, Interest: 1000, Due: 14000, Rate: 10000})
}

// orders lists all orders of some events.
func orders(events []api.Event) [][]api.Event {
	if len(events) == 0 {
		return [][]api.Event{nil}
	}
	var all [][]api.Event
	for i, first := range events {
		rest := append(append([]api.Event{}, events[:i]...), events[i+1:]...)
		for _, tail := range orders(rest) {
			all = append(all, append([]api.Event{first}, tail...))
		}
	}
	return all
}

func wantInAllOrders(t *testing.T, terms api.Terms, events []api.Event, day int, want api.Balance) {
	t.Helper()
	for _, told := range orders(events) {
		wantAt(t, terms, told, day, want)
		if t.Failed() {
			t.Fatalf("told in the order %+v", told)
		}
	}
}

// One day's events go by kinds first, whatever their Seqs and the order in which they were told.
func TestOneDaysEventsGoByKinds(t *testing.T) {
	at := func(kind, seq, amount int) api.Event {
		return api.Event{Day: start + 2, Kind: kind, Seq: seq, Amount: amount}
	}
	// The interest of two days is capital before it could be paid, and the draw is paid back at once.
	wantInAllOrders(t, plain, list(
		at(api.Pay, -5, 2000+36500000), at(api.Capital, 1, 0), at(api.Holiday, 2, 3), at(api.Rate, 3, 20000), at(api.Draw, 4, 36500000),
	), start+3, api.Balance{Principal: 36500000, Interest: 2000, Rate: 20000})
}

// Of one kind they go by Seqs: the last rate holds.
func TestOneDaysRatesGoBySeqs(t *testing.T) {
	at := func(seq, amount int) api.Event {
		return api.Event{Day: start + 2, Kind: api.Rate, Seq: seq, Amount: amount}
	}
	wantInAllOrders(t, plain, list(
		at(math.MinInt, 50000), at(-1, 40000), at(0, 90000), at(2, 70000), at(math.MaxInt, 20000),
	), start+3, api.Balance{Principal: 36500000, Interest: 4000, Rate: 20000})
}

func TestSeveralOfOneKindOnOneDay(t *testing.T) {
	at := func(kind, seq, amount int) api.Event {
		return api.Event{Day: start + 2, Kind: kind, Seq: seq, Amount: amount}
	}
	wantInAllOrders(t, plain, list(
		at(api.Draw, 9, 365), at(api.Draw, 1, 635), at(api.Pay, 2, 1500), at(api.Pay, 8, 600), at(api.Pay, 5, 10),
	), start+3, api.Balance{Principal: 36500890, Interest: 1000, Rate: 10000})
	wantInAllOrders(t, plain, list(
		at(api.Capital, 9, 0), at(api.Capital, 1, 0),
	), start+3, api.Balance{Principal: 36502000, Interest: 1000, Rate: 10000})
}

func TestEventsOfSeveralDaysToldInAnyOrder(t *testing.T) {
	wantInAllOrders(t, plain, list(
		on(1, api.Pay, 400), on(2, api.Capital, 0), on(3, api.Rate, 20000), on(5, api.Rate, 10000), on(6, api.Draw, 7),
	), start+7, api.Balance{Principal: 36501607, Interest: 1000 + 2000 + 2000 + 1000 + 1000, Rate: 10000})
}

func TestEventsToldLateAndTakenBack(t *testing.T) {
	loan := open(t, plain)
	run(t, loan, start+20)
	wantBalance(t, loan, api.Balance{Principal: 36500000, Interest: 6000, Due: 14000, Rate: 10000, Day: start + 20})
	// On the very first day, on one that was run through, on the last one of these, and on one to come.
	add(t, loan, on(0, api.Draw, 36500000))
	run(t, loan, start+20)
	wantBalance(t, loan, api.Balance{Principal: 73000000, Interest: 12000, Due: 28000, Rate: 10000, Day: start + 20})
	add(t, loan, on(14, api.Pay, 1000))
	add(t, loan, on(19, api.Rate, 0))
	add(t, loan, on(21, api.Pay, 10))
	run(t, loan, start+20)
	wantBalance(t, loan, api.Balance{Principal: 73000000, Interest: 10000, Due: 27000, Rate: 0, Day: start + 20})
	wantCancel(t, loan, on(0, api.Draw, 0).Seq, api.OK)
	run(t, loan, start+21)
	wantBalance(t, loan, api.Balance{Principal: 36500000, Interest: 5000, Due: 13000, Rate: 0, Day: start + 21})
	wantCancel(t, loan, on(19, api.Rate, 0).Seq, api.OK)
	wantCancel(t, loan, on(14, api.Pay, 0).Seq, api.OK)
	run(t, loan, start+22)
	wantBalance(t, loan, api.Balance{Principal: 36500000, Interest: 8000, Due: 13990, Rate: 10000, Day: start + 22})
	wantCancel(t, loan, on(21, api.Pay, 0).Seq, api.OK)
	run(t, loan, start+22)
	wantBalance(t, loan, api.Balance{Principal: 36500000, Interest: 8000, Due: 14000, Rate: 10000, Day: start + 22})
}

// A holiday that is told late puts back what fell due long ago; taken back, it falls due again.
func TestAHolidayToldLate(t *testing.T) {
	loan := open(t, withFine())
	run(t, loan, start+46)
	before := loan.Balance()
	add(t, loan, on(13, api.Holiday, 2))
	run(t, loan, start+46)
	wantBalance(t, loan, api.Balance{Principal: 36500000, Interest: 1000, Due: 45000, Rate: 10000, Day: start + 46})
	wantCancel(t, loan, on(13, api.Holiday, 0).Seq, api.OK)
	run(t, loan, start+46)
	wantBalance(t, loan, before)
}

func TestWhatFallsDue(t *testing.T) {
	loan := open(t, plain)
	run(t, loan, start+15)
	wantBalance(t, loan, api.Balance{Principal: 36500000, Interest: 1000, Due: 14000, Rate: 10000, Day: start + 15})
	// 2000-02-15 is day 45, 2000-03-15 day 74 (a leap year), 2000-04-15 day 105.
	run(t, loan, start+45)
	wantBalance(t, loan, api.Balance{Principal: 36500000, Interest: 31000, Due: 14000, Rate: 10000, Day: start + 45})
	run(t, loan, start+46)
	wantBalance(t, loan, api.Balance{Principal: 36500000, Interest: 1000, Due: 31000, Late: 14000, Rate: 10000, Day: start + 46})
	run(t, loan, start+75)
	wantBalance(t, loan, api.Balance{Principal: 36500000, Interest: 1000, Due: 29000, Late: 45000, Rate: 10000, Day: start + 75})
	run(t, loan, start+106)
	wantBalance(t, loan, api.Balance{Principal: 36500000, Interest: 1000, Due: 31000, Late: 74000, Rate: 10000, Day: start + 106})
}

func TestNothingFallsDueOnStart(t *testing.T) {
	terms := plain
	terms.Due = 1
	wantAt(t, terms, nil, start+1, api.Balance{Principal: 36500000, Interest: 1000, Rate: 10000})
	wantAt(t, terms, nil, start+31, api.Balance{Principal: 36500000, Interest: 31000, Rate: 10000})
	wantAt(t, terms, nil, start+32, api.Balance{Principal: 36500000, Interest: 1000, Due: 31000, Rate: 10000})
	// The day behind Start.
	terms.Due = 2
	wantAt(t, terms, nil, start+2, api.Balance{Principal: 36500000, Interest: 1000, Due: 1000, Rate: 10000})
	// The last day of a February.
	terms.Due = 28
	wantAt(t, terms, nil, start+59, api.Balance{Principal: 36500000, Interest: 1000 * 1, Due: 31000, Late: 27000, Rate: 10000})
}

// What falls due does so ahead of the day's events.
func TestWhatFallsDueGoesFirst(t *testing.T) {
	wantAt(t, plain, list(on(14, api.Capital, 0)), start+15, api.Balance{Principal: 36500000, Interest: 1000, Due: 14000, Rate: 10000})
	wantAt(t, plain, list(on(14, api.Pay, 14000)), start+15, api.Balance{Principal: 36500000, Interest: 1000, Rate: 10000})
	wantAt(t, plain, list(on(45, api.Pay, 20000)), start+46, api.Balance{Principal: 36500000, Interest: 1000, Due: 25000, Rate: 10000})
}

func TestHolidays(t *testing.T) {
	fell := api.Balance{Principal: 36500000, Interest: 1000, Due: 14000, Rate: 10000}
	kept := api.Balance{Principal: 36500000, Interest: 15000, Rate: 10000}
	for _, c := range []struct {
		events []api.Event
		want   api.Balance
	}{
		// Its last day is the one ahead of the due day, the due day, one behind it.
		{list(on(4, api.Holiday, 10)), fell},
		{list(on(4, api.Holiday, 11)), kept},
		{list(on(4, api.Holiday, 12)), kept},
		{list(on(13, api.Holiday, 1)), fell},
		{list(on(13, api.Holiday, 2)), kept},
		{list(on(0, api.Holiday, 400)), kept},
		// Begun on the due day itself, or behind it.
		{list(on(14, api.Holiday, 1)), fell},
		{list(on(14, api.Holiday, 400)), fell},
		{list(on(15, api.Holiday, 400)), fell},
		// Several: till the last day that any of them says.
		{list(on(1, api.Holiday, 14), on(2, api.Holiday, 1)), kept},
		{list(on(1, api.Holiday, 1), on(2, api.Holiday, 13)), kept},
		{list(on(1, api.Holiday, 2), on(5, api.Holiday, 2)), fell},
		{list(on(13, api.Holiday, 2), on(14, api.Holiday, 1)), kept},
		{list(api.Event{Day: start + 3, Kind: api.Holiday, Seq: 1, Amount: 12}, api.Event{Day: start + 3, Kind: api.Holiday, Seq: 2, Amount: 1}), kept},
		{list(api.Event{Day: start + 3, Kind: api.Holiday, Seq: 2, Amount: 12}, api.Event{Day: start + 3, Kind: api.Holiday, Seq: 1, Amount: 1}), kept},
	} {
		wantAt(t, plain, c.events, start+15, c.want)
	}
}

// In a holiday what is due does not become late either; behind it both go on.
func TestAHolidayBetweenDueDays(t *testing.T) {
	events := list(on(44, api.Holiday, 2))
	wantAt(t, withFine(), events, start+46, api.Balance{Principal: 36500000, Interest: 32000, Due: 14000, Rate: 10000})
	wantAt(t, withFine(), events, start+75, api.Balance{Principal: 36500000, Interest: 1000, Due: 60000, Late: 14000, Fine: 14, Rate: 10000})
	// On the day it begins what is due becomes late as ever; the next due day is kept.
	events = list(on(45, api.Holiday, 30))
	wantAt(t, plain, events, start+75, api.Balance{Principal: 36500000, Interest: 30000, Due: 31000, Late: 14000, Rate: 10000})
	events = list(on(45, api.Holiday, 29))
	wantAt(t, plain, events, start+75, api.Balance{Principal: 36500000, Interest: 1000, Due: 29000, Late: 45000, Rate: 10000})
}

func TestLessThanACentIsCarriedOn(t *testing.T) {
	// 100 at one whole a year: 100/360 of a cent a day.
	small := api.Terms{Start: start, Principal: 100, Rate: 1000000, Basis: api.Actual360, Due: 28}
	for days, cents := range map[int]int{1: 0, 3: 0, 4: 1, 7: 1, 8: 2, 10: 2, 11: 3, 18: 5, 27: 7} {
		wantAt(t, small, nil, start+days, api.Balance{Principal: 100, Interest: cents, Rate: 1000000})
	}
	// A cent at a millionth a year and more would take longer than the loan lasts; all of it is still carried.
	tiny := api.Terms{Start: start, Principal: 100000, Rate: 1, Basis: api.Actual365, Due: 28}
	wantAt(t, tiny, nil, start+3649, api.Balance{Principal: 100000, Rate: 1})
	wantAt(t, tiny, nil, start+3650, api.Balance{Principal: 100000, Interest: 1, Rate: 1})
}

// The rest outlasts a due day, a capitalisation, a payment and a change of rate.
func TestTheRestOutlastsEvents(t *testing.T) {
	half := api.Terms{Start: start, Principal: 365, Rate: 500000, Basis: api.Actual365, Due: 15}
	wantAt(t, half, nil, start+13, api.Balance{Principal: 365, Interest: 6, Rate: 500000})
	wantAt(t, half, nil, start+15, api.Balance{Principal: 365, Due: 7, Interest: 0, Rate: 500000})
	wantAt(t, half, list(on(13, api.Pay, 6)), start+14, api.Balance{Principal: 365, Interest: 1, Rate: 500000})
	wantAt(t, half, list(on(13, api.Rate, 0)), start+14, api.Balance{Principal: 365, Interest: 6})
	wantAt(t, half, list(on(1, api.Rate, 0), on(9, api.Rate, 500000)), start+10, api.Balance{Principal: 365, Interest: 1, Rate: 500000})
	// All is paid, half a cent is left, and years of nothing later another half makes it whole.
	wantAt(t, half, list(on(1, api.Pay, 365), on(2000, api.Draw, 365)), start+2001, api.Balance{Principal: 365, Interest: 1, Rate: 500000})
}

func TestRatesThatChange(t *testing.T) {
	events := list(on(0, api.Rate, 20000), on(3, api.Rate, 0), on(5, api.Rate, 1000000), on(6, api.Rate, 10000))
	for days, want := range map[int][2]int{1: {2000, 20000}, 3: {6000, 20000}, 4: {6000, 0}, 5: {6000, 0}, 6: {106000, 1000000}, 8: {108000, 10000}} {
		wantAt(t, plain, events, start+days, api.Balance{Principal: 36500000, Interest: want[0], Rate: want[1]})
	}
}

func TestFines(t *testing.T) {
	// Late is 14000 from day 45 on: 14 a day.
	wantAt(t, withFine(), nil, start+45, api.Balance{Principal: 36500000, Interest: 31000, Due: 14000, Rate: 10000})
	wantAt(t, withFine(), nil, start+46, api.Balance{Principal: 36500000, Interest: 1000, Due: 31000, Late: 14000, Fine: 14, Rate: 10000})
	wantAt(t, withFine(), nil, start+48, api.Balance{Principal: 36500000, Interest: 3000, Due: 31000, Late: 14000, Fine: 42, Rate: 10000})
	// What was paid in the course of a day is not late in its end; what is less than a cent is carried: 13.5 a day.
	wantAt(t, withFine(), list(on(45, api.Pay, 500)), start+46, api.Balance{Principal: 36500000, Interest: 1000, Due: 31000, Late: 13500, Fine: 13, Rate: 10000})
	wantAt(t, withFine(), list(on(45, api.Pay, 500)), start+47, api.Balance{Principal: 36500000, Interest: 2000, Due: 31000, Late: 13500, Fine: 27, Rate: 10000})
	// The fine goes by the terms' Fine, not by the rate.
	wantAt(t, withFine(), list(on(45, api.Rate, 0)), start+47, api.Balance{Principal: 36500000, Due: 31000, Late: 14000, Fine: 28})
	wantAt(t, plain, nil, start+48, api.Balance{Principal: 36500000, Interest: 3000, Due: 31000, Late: 14000, Rate: 10000})
}

// On day 46 the loan owes fine 14, late 14000, due 31000, interest 1000, principal 36500000.
func TestAPaymentGoesThroughAllThatIsOwed(t *testing.T) {
	terms := withFine()
	for _, c := range []struct {
		paid int
		want api.Balance
	}{
		{1, api.Balance{Principal: 36500000, Interest: 2000, Due: 31000, Late: 14000, Fine: 13 + 14}},
		{14, api.Balance{Principal: 36500000, Interest: 2000, Due: 31000, Late: 14000, Fine: 14}},
		{14 + 1000, api.Balance{Principal: 36500000, Interest: 2000, Due: 31000, Late: 13000, Fine: 13}},
		{14 + 14000, api.Balance{Principal: 36500000, Interest: 2000, Due: 31000}},
		{14 + 14000 + 1, api.Balance{Principal: 36500000, Interest: 2000, Due: 30999}},
		{14 + 14000 + 31000, api.Balance{Principal: 36500000, Interest: 2000}},
		{14 + 14000 + 31000 + 1, api.Balance{Principal: 36500000, Interest: 1999}},
		{14 + 14000 + 31000 + 1000, api.Balance{Principal: 36500000, Interest: 1000}},
		{14 + 14000 + 31000 + 1000 + 5, api.Balance{Principal: 36499995, Interest: 999}},
		{14 + 14000 + 31000 + 1000 + 36500000, api.Balance{}},
		{14 + 14000 + 31000 + 1000 + 36500000 + 1, api.Balance{Credit: 1}},
		{100000000000, api.Balance{Credit: 100000000000 - 36546014}},
	} {
		c.want.Rate = 10000
		wantAt(t, terms, list(on(46, api.Pay, c.paid)), start+47, c.want)
	}
}

// Credit stays credit: no later draw, due or payment touches it but to add to it.
func TestCreditStays(t *testing.T) {
	events := list(on(0, api.Pay, 36500007), on(1, api.Draw, 36500000), on(20, api.Pay, 3))
	wantAt(t, plain, events, start+2, api.Balance{Principal: 36500000, Interest: 1000, Credit: 7, Rate: 10000})
	wantAt(t, plain, events, start+21, api.Balance{Principal: 36500000, Interest: 7000, Due: 12997, Credit: 7, Rate: 10000})
	wantAt(t, plain, append(events, on(21, api.Pay, 12997+7000+36500000+4)), start+22, api.Balance{Credit: 11, Rate: 10000})
}

func TestTheBases(t *testing.T) {
	terms := api.Terms{Start: dayOf(t, "2001-01-28"), Principal: 365 * 360, Rate: 1000000, Due: 28}
	for _, c := range []struct {
		to                   string
		at365, at360, thirty int
	}{
		{"2001-01-29", 360, 365, 365},
		{"2001-01-30", 2 * 360, 2 * 365, 2 * 365},
		{"2001-01-31", 3 * 360, 3 * 365, 2 * 365},
		{"2001-02-01", 4 * 360, 4 * 365, 3 * 365},
		{"2001-02-28", 31 * 360, 31 * 365, 30 * 365},
	} {
		to := dayOf(t, c.to)
		for basis, interest := range map[int]int{api.Actual365: c.at365, api.Actual360: c.at360, api.Thirty360: c.thirty} {
			terms.Basis = basis
			wantAt(t, terms, nil, to, api.Balance{Principal: 365 * 360, Interest: interest, Rate: 1000000})
		}
	}
	// The 28th of February weighs 3: all that fell due on it was earned before.
	terms.Basis = api.Thirty360
	wantAt(t, terms, nil, dayOf(t, "2001-03-01"), api.Balance{Principal: 365 * 360, Interest: 3 * 365, Due: 30 * 365, Rate: 1000000})
}

// A loan's last days are the calendar's last days.
func TestTheLastDaysOfAll(t *testing.T) {
	terms := api.Terms{Start: api.MaxDay - api.MaxSpan, Principal: 360, Rate: 1000000, Basis: api.Thirty360, Due: 28}
	loan := open(t, terms, api.Event{Day: api.MaxDay, Kind: api.Draw, Amount: 1})
	run(t, loan, api.MaxDay)
	if b := loan.Balance(); b.Interest != 2 || b.Principal != 360 || b.Day != api.MaxDay {
		t.Errorf("Balance at MaxDay: %+v", b)
	}
	wantRun(t, loan, api.MaxDay+1, api.ErrDay)
}
