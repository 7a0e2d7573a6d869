package owed

import (
	"accrue/api"
	"accrue/calendar"
)

// Amounts are the amounts of a day's entries, by their kinds.
type Amounts [api.Fined + 1]int

// passage is a state on its way through one day.
type passage struct {
	terms   api.Terms
	day     int
	state   State
	amounts Amounts
}

// Pass takes a state through one day, with the events of that day in their
// order, and tells the state in its end and what it entered.
func (s State) Pass(t api.Terms, day int, events []api.Event) (State, Amounts) {
	p := passage{terms: t, day: day, state: s}
	p.begin()
	for _, e := range events {
		p.happen(e)
	}
	p.end()
	return p.state, p.amounts
}

// enter is the one way in which what is owed changes, so that entries and
// state can't come to differ.
func (p *passage) enter(kind, amount int) {
	p.state.accounts.Move(kind, amount)
	p.amounts[kind] += amount
}

func (p *passage) begin() {
	if p.day == p.terms.Start {
		p.enter(api.Lent, p.terms.Principal)
	} else if p.fallsDue() {
		p.enter(api.Overdue, p.state.accounts[api.Due])
		p.enter(api.Fallen, p.state.accounts[api.Interest])
	}
}

// fallsDue is asked ahead of the day's events: a holiday that begins on this
// day is not yet in the state, and so does not keep what falls due.
func (p *passage) fallsDue() bool {
	return calendar.DayOfMonth(p.day) == p.terms.Due && p.day >= p.state.free
}

func (p *passage) end() {
	s := &p.state
	weight := calendar.Weight(p.terms.Basis, p.day, p.day+1)
	year := calendar.Year(p.terms.Basis)
	earned, rest := perYear(s.accounts[api.Principal], s.rate*weight, year, s.interestRest)
	s.interestRest = rest
	fined, rest := perYear(s.accounts[api.Late], p.terms.Fine*weight, year, s.fineRest)
	s.fineRest = rest
	p.enter(api.Earned, earned)
	p.enter(api.Fined, fined)
}
