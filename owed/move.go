package owed

import "accrue/api"

// Accounts are the accounts of a loan, by their numbers.
type Accounts [api.Fines + 1]int

// Move adds an entry's amount to one account and takes it from another.
func (a *Accounts) Move(kind, amount int) {
	a[moves[kind].to] += amount
	a[moves[kind].from] -= amount
}

// move names the accounts that an entry's amount is added to and taken from.
type move struct {
	to, from int
}

// moves has the move of each kind of entry.
var moves = [...]move{
	api.Lent:          {api.Principal, api.Cash},
	api.Overdue:       {api.Late, api.Due},
	api.Fallen:        {api.Due, api.Interest},
	api.Capitalised:   {api.Principal, api.Interest},
	api.PaidFine:      {api.Cash, api.Fine},
	api.PaidLate:      {api.Cash, api.Late},
	api.PaidDue:       {api.Cash, api.Due},
	api.PaidInterest:  {api.Cash, api.Interest},
	api.PaidPrincipal: {api.Cash, api.Principal},
	api.Overpaid:      {api.Cash, api.Credit},
	api.Earned:        {api.Interest, api.Income},
	api.Fined:         {api.Fine, api.Fines},
}
