// Package owed tells what a loan owes, and takes it through the days, one by one.
package owed

import "accrue/api"

// State is what a loan owes in the end of a day, and whatever else the days
// behind it go by. It has no pointers: a copy is a state of its own.
type State struct {
	accounts Accounts
	rate     int
	// free is the first day behind the holidays that were begun so far.
	free int
	// What is left of interest and fine, in parts of a cent: see perYear.
	interestRest, fineRest uint64
}

// First is the state of a loan ahead of its first day.
func First(t api.Terms) State {
	return State{rate: t.Rate}
}

// Balance tells a state as that of a loan which is at the given day.
func (s State) Balance(day int) api.Balance {
	return api.Balance{
		Principal: s.accounts[api.Principal],
		Interest:  s.accounts[api.Interest],
		Due:       s.accounts[api.Due],
		Late:      s.accounts[api.Late],
		Fine:      s.accounts[api.Fine],
		// Credit is what the lender owes: its account stands below 0.
		Credit: -s.accounts[api.Credit],
		Rate:   s.rate,
		Day:    day,
	}
}
