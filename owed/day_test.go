package owed

import (
	"math"
	"math/big"
	"testing"

	"accrue/api"
)

const start = 36524 // 2000-01-01

var terms = api.Terms{Start: start, Principal: 36500000, Rate: 10000, Fine: 365000, Basis: api.Actual365, Due: 15}

// pass takes a state from the start through the days ahead of a day, without events.
func pass(s State, days int) State {
	for d := range days {
		s, _ = s.Pass(terms, start+d, nil)
	}
	return s
}

func wantDay(t *testing.T, s State, days int, want Amounts, events ...api.Event) {
	t.Helper()
	for i := range events {
		events[i].Day = start + days
	}
	if _, got := s.Pass(terms, start+days, events); got != want {
		t.Errorf("day %d with %+v:\n got %v\nwant %v", days, events, got, want)
	}
}

func TestTheAmountsOfADay(t *testing.T) {
	wantDay(t, First(terms), 0, Amounts{api.Lent: 36500000, api.Earned: 1000})
	wantDay(t, pass(First(terms), 1), 1, Amounts{api.Earned: 1000})
	wantDay(t, pass(First(terms), 14), 14, Amounts{api.Fallen: 14000, api.Earned: 1000})
	wantDay(t, pass(First(terms), 45), 45, Amounts{api.Overdue: 14000, api.Fallen: 31000, api.Earned: 1000, api.Fined: 14})
}

func TestTheAmountsOfEvents(t *testing.T) {
	at2, at46 := pass(First(terms), 2), pass(First(terms), 46)
	wantDay(t, at2, 2, Amounts{api.Lent: 36500000, api.Earned: 2000}, api.Event{Kind: api.Draw, Amount: 36500000})
	wantDay(t, at2, 2, Amounts{api.Earned: 3000}, api.Event{Kind: api.Rate, Amount: 30000})
	wantDay(t, at2, 2, Amounts{api.Earned: 1000}, api.Event{Kind: api.Holiday, Amount: 9})
	wantDay(t, at2, 2, Amounts{api.Capitalised: 2000, api.Earned: 1000}, api.Event{Kind: api.Capital})
	wantDay(t, at46, 46, Amounts{
		api.PaidFine: 14, api.PaidLate: 14000, api.PaidDue: 31000, api.PaidInterest: 1000, api.PaidPrincipal: 36500000, api.Overpaid: 3,
	}, api.Event{Kind: api.Pay, Amount: 14 + 14000 + 31000 + 1000 + 36500000 + 3})
}

// Several entries of one kind on one day are one, with the sum.
func TestTheAmountsOfSeveralEvents(t *testing.T) {
	wantDay(t, First(terms), 0, Amounts{api.Lent: 73000000, api.Earned: 2000},
		api.Event{Kind: api.Draw, Seq: 1, Amount: 36000000}, api.Event{Kind: api.Draw, Seq: 2, Amount: 500000})
	wantDay(t, pass(First(terms), 2), 2, Amounts{api.PaidInterest: 2000, api.PaidPrincipal: 36500000, api.Overpaid: 900},
		api.Event{Kind: api.Pay, Seq: 1, Amount: 1500}, api.Event{Kind: api.Pay, Seq: 2, Amount: 36501000}, api.Event{Kind: api.Pay, Seq: 3, Amount: 400})
}

// A state is a value: to take it through a day leaves it as it was.
func TestAStateIsAValue(t *testing.T) {
	s := pass(First(terms), 2)
	before := s
	one, _ := s.Pass(terms, start+2, []api.Event{{Day: start + 2, Kind: api.Pay, Amount: 500}})
	other, _ := s.Pass(terms, start+2, nil)
	if s != before {
		t.Errorf("the state was changed to %+v", s)
	}
	if one.Balance(0).Interest != 2500 || other.Balance(0).Interest != 3000 {
		t.Errorf("one %+v, other %+v", one, other)
	}
}

// What is on one account was taken from another: they sum to 0.
func TestTheAccountsOfAStateSumToNothing(t *testing.T) {
	s := First(terms)
	for d := range 100 {
		s, _ = s.Pass(terms, start+d, []api.Event{{Day: start + d, Kind: 1 + d%5, Amount: d % 2 * 77}})
		sum := 0
		for _, a := range s.accounts {
			sum += a
		}
		if sum != 0 {
			t.Fatalf("day %d: the accounts %v sum to %d", d, s.accounts, sum)
		}
	}
}

func TestPerYearCarriesTheRest(t *testing.T) {
	cents, rest := 0, uint64(0)
	for day := 1; day <= 1000; day++ {
		var more int
		more, rest = perYear(100, 1000000, 360, rest)
		cents += more
		if cents != day*100/360 {
			t.Fatalf("day %d: %d cents in all", day, cents)
		}
	}
}

// The product and its sum with the rest are longer than 64 bits.
func TestPerYearOfGreatNumbers(t *testing.T) {
	for _, amount := range []int{0, 1, 120, 360, api.MaxAmount, 1 << 50, 1 << 61, math.MaxInt} {
		for _, rate := range []int{0, 1, 10000, api.MaxRate, 3 * api.MaxRate} {
			for _, rest := range []uint64{0, 1, 360*1000000 - 1} {
				sum := new(big.Int).Mul(big.NewInt(int64(amount)), big.NewInt(int64(rate)))
				sum.Add(sum, new(big.Int).SetUint64(rest))
				want, left := new(big.Int).QuoRem(sum, big.NewInt(360*1000000), new(big.Int))
				if cents, now := perYear(amount, rate, 360, rest); int64(cents) != want.Int64() || now != left.Uint64() {
					t.Errorf("perYear(%d, %d, 360, %d) = %d, %d, want %d, %d", amount, rate, rest, cents, now, want, left)
				}
			}
		}
	}
}
