package accrue_test

import (
	"slices"
	"testing"

	"accrue/accrue"
	"accrue/api"
)

func wantAccounts(t *testing.T, loan *accrue.Loan, want ...int) {
	t.Helper()
	if got := loan.Accounts(); !slices.Equal(got, want) {
		t.Errorf("Accounts:\n got %v\nwant %v", got, want)
	}
}

// wantAccountsAgree asks that the accounts sum to 0 and say what the balance says.
func wantAccountsAgree(t *testing.T, loan *accrue.Loan) {
	t.Helper()
	a, b := loan.Accounts(), loan.Balance()
	if len(a) != 9 {
		t.Fatalf("%d accounts: %v", len(a), a)
	}
	sum := 0
	for _, amount := range a {
		sum += amount
	}
	if sum != 0 {
		t.Errorf("the accounts %v sum to %d", a, sum)
	}
	if owed := []int{b.Principal, b.Interest, b.Due, b.Late, b.Fine, -b.Credit}; !slices.Equal(a[1:7], owed) {
		t.Errorf("accounts %v, balance %+v", a, b)
	}
}

func TestAccountsOfALoanThatWasNotRun(t *testing.T) {
	loan := open(t, plain)
	wantAccounts(t, loan, 0, 0, 0, 0, 0, 0, 0, 0, 0)
	add(t, loan, on(0, api.Draw, 5))
	run(t, loan, start)
	wantAccounts(t, loan, 0, 0, 0, 0, 0, 0, 0, 0, 0)
}

// In the order cash, principal, interest, due, late, fine, credit, income, fines: what each kind of entry does.
func TestAccountsOfEachKindOfEntry(t *testing.T) {
	const lent, all = 36500000, 14 + 14000 + 31000 + 1000 + 36500000
	for _, c := range []struct {
		events []api.Event
		days   int
		want   []int
	}{
		{nil, 1, []int{-lent, lent, 1000, 0, 0, 0, 0, -1000, 0}},
		{nil, 15, []int{-lent, lent, 1000, 14000, 0, 0, 0, -15000, 0}},
		{nil, 46, []int{-lent, lent, 1000, 31000, 14000, 14, 0, -46000, -14}},
		{list(on(2, api.Capital, 0)), 3, []int{-lent, lent + 2000, 1000, 0, 0, 0, 0, -3000, 0}},
		{list(on(46, api.Pay, 9)), 47, []int{-lent + 9, lent, 2000, 31000, 14000, 14 - 9 + 14, 0, -47000, -28}},
		{list(on(46, api.Pay, 14+14000)), 47, []int{-lent + 14014, lent, 2000, 31000, 0, 0, 0, -47000, -14}},
		{list(on(46, api.Pay, 14+14000+30999)), 47, []int{-lent + 45013, lent, 2000, 1, 0, 0, 0, -47000, -14}},
		{list(on(46, api.Pay, 14+14000+31000+600)), 47, []int{-lent + 45614, lent, 1400, 0, 0, 0, 0, -47000, -14}},
		{list(on(46, api.Pay, all-1)), 47, []int{-lent + all - 1, 1, 0, 0, 0, 0, 0, -46000, -14}},
		{list(on(46, api.Pay, all+3)), 47, []int{-lent + all + 3, 0, 0, 0, 0, 0, -3, -46000, -14}},
	} {
		loan := open(t, withFine(), c.events...)
		run(t, loan, start+c.days)
		wantAccounts(t, loan, c.want...)
		wantAccountsAgree(t, loan)
	}
}

// What was taken back is on no account any more.
func TestAccountsOfABookThatWasPutRight(t *testing.T) {
	pay := on(20, api.Pay, 14500)
	loan := open(t, withFine())
	run(t, loan, start+47)
	before := loan.Accounts()
	add(t, loan, pay)
	wantAccounts(t, loan, before...)
	run(t, loan, start+47)
	wantAccounts(t, loan, -36500000+14500, 36500000, 2000, 30500, 0, 0, 0, -47000, 0)
	wantAccountsAgree(t, loan)
	wantCancel(t, loan, pay.Seq, api.OK)
	run(t, loan, start+47)
	wantAccounts(t, loan, before...)
	wantAccountsAgree(t, loan)
}
