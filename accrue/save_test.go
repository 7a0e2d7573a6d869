package accrue_test

import (
	"math"
	"slices"
	"strings"
	"testing"

	"accrue/accrue"
	"accrue/api"
)

// textOf makes a text of its lines.
func textOf(lines ...string) string {
	return strings.Join(lines, "\n") + "\n"
}

func wantSave(t *testing.T, loan *accrue.Loan, want string) {
	t.Helper()
	if got := loan.Save(); got != want {
		t.Errorf("Save:\n got %q\nwant %q", got, want)
	}
}

func TestTheDocumentsText(t *testing.T) {
	loan := open(t, plain)
	wantSave(t, loan, "loan 36524 36500000 10000 0 1 15\nat 36524\nnow 0 0 0 0 0 0 10000\nend\n")
}

func TestSaveOfTheTerms(t *testing.T) {
	least := api.Terms{Basis: 1, Due: 1}
	wantSave(t, open(t, least), textOf("loan 0 0 0 0 1 1", "at 0", "now 0 0 0 0 0 0 0", "end"))
	greatest := api.Terms{Start: 105872, Principal: 100000000000, Rate: 1000000, Fine: 999999, Basis: 3, Due: 28}
	wantSave(t, open(t, greatest), textOf("loan 105872 100000000000 1000000 999999 3 28", "at 105872", "now 0 0 0 0 0 0 1000000", "end"))
}

// In whatever order they were told: by rising days, of one day by rising kinds, then Seqs (as numbers, not as texts).
func TestSaveOfTheEvents(t *testing.T) {
	events := list(
		api.Event{Day: start, Kind: api.Pay, Seq: 0, Amount: 3},
		api.Event{Day: start + 1, Kind: api.Draw, Seq: 99, Amount: 100000000000},
		api.Event{Day: start + 1, Kind: api.Rate, Seq: math.MinInt, Amount: 0},
		api.Event{Day: start + 1, Kind: api.Rate, Seq: -10, Amount: 1000000},
		api.Event{Day: start + 1, Kind: api.Rate, Seq: -9, Amount: 1},
		api.Event{Day: start + 1, Kind: api.Rate, Seq: 9, Amount: 2},
		api.Event{Day: start + 1, Kind: api.Rate, Seq: 10, Amount: 2},
		api.Event{Day: start + 1, Kind: api.Rate, Seq: math.MaxInt, Amount: 2},
		api.Event{Day: start + 1, Kind: api.Capital, Seq: 1},
		api.Event{Day: start + 3700, Kind: api.Holiday, Seq: -1, Amount: 400})
	want := textOf("loan 36524 36500000 10000 0 1 15",
		"event 36524 5 0 3",
		"event 36525 1 99 100000000000",
		"event 36525 2 -9223372036854775808 0",
		"event 36525 2 -10 1000000",
		"event 36525 2 -9 1",
		"event 36525 2 9 2",
		"event 36525 2 10 2",
		"event 36525 2 9223372036854775807 2",
		"event 36525 4 1 0",
		"event 40224 3 -1 400",
		"at 36524", "now 0 0 0 0 0 0 10000", "end")
	wantSave(t, open(t, plain, events...), want)
	slices.Reverse(events)
	wantSave(t, open(t, plain, events...), want)
	events[0], events[5], events[7] = events[5], events[7], events[0]
	loan := open(t, plain, events...)
	wantSave(t, loan, want)
	wantCancel(t, loan, 99, api.OK)
	wantSave(t, loan, strings.Replace(want, "event 36525 1 99 100000000000\n", "", 1))
}

// All numbers of a balance, each unlike the others, and entries above and below 0, in the order in which they were written.
func TestSaveOfBalanceAndBook(t *testing.T) {
	loan := open(t, withFine(), on(20, api.Rate, 20000))
	run(t, loan, start+1)
	wantSave(t, loan, textOf("loan 36524 36500000 10000 365000 1 15", "event 36544 2 20002 20000",
		"at 36525", "now 36500000 1000 0 0 0 0 10000", "entry 36524 1 36500000", "entry 36524 11 1000", "end"))
	pay := api.Event{Day: start, Kind: api.Pay, Seq: -5, Amount: 36500007}
	add(t, loan, pay)
	wantCancel(t, loan, on(20, api.Rate, 20000).Seq, api.OK)
	// What was told since is in the events; balance and book stand till the next run.
	wantSave(t, loan, textOf("loan 36524 36500000 10000 365000 1 15", "event 36524 5 -5 36500007",
		"at 36525", "now 36500000 1000 0 0 0 0 10000", "entry 36524 1 36500000", "entry 36524 11 1000", "end"))
	run(t, loan, start+1)
	wantSave(t, loan, textOf("loan 36524 36500000 10000 365000 1 15", "event 36524 5 -5 36500007",
		"at 36525", "now 0 0 0 0 0 7 10000", "entry 36524 1 36500000", "entry 36524 11 1000",
		"entry 36524 9 36500000", "entry 36524 10 7", "entry 36524 11 -1000", "end"))
}

func TestSaveOfAllThatIsOwed(t *testing.T) {
	loan := open(t, withFine(), api.Event{Day: start + 46, Kind: api.Rate, Seq: 1, Amount: 20000})
	run(t, loan, start+47)
	wantBalance(t, loan, api.Balance{Principal: 36500000, Interest: 3000, Due: 31000, Late: 14000, Fine: 28, Rate: 20000, Day: start + 47})
	if got := loan.Save(); !strings.Contains(got, "\nat 36571\nnow 36500000 3000 31000 14000 28 0 20000\nentry 36524 1 36500000\n") {
		t.Errorf("Save: %q", got)
	}
}

// Save changes nothing, and answers the same again.
func TestSaveIsNoChange(t *testing.T) {
	loan, other := open(t, withFine(), on(3, api.Pay, 5)), open(t, withFine(), on(3, api.Pay, 5))
	for _, days := range []int{0, 1, 14, 15, 60} {
		run(t, loan, start+days)
		run(t, other, start+days)
		text := loan.Save()
		wantSave(t, loan, text)
		wantBalance(t, loan, other.Balance())
		wantBook(t, loan, 0, other.Book(0)...)
		wantAccounts(t, loan, other.Accounts()...)
		wantSave(t, other, text)
	}
}
