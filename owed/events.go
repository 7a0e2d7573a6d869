package owed

import "accrue/api"

func (p *passage) happen(e api.Event) {
	effects := [...]func(*passage, int){
		api.Draw:    (*passage).draw,
		api.Rate:    (*passage).setRate,
		api.Holiday: (*passage).beginHoliday,
		api.Capital: (*passage).capitalise,
		api.Pay:     (*passage).pay,
	}
	effects[e.Kind](p, e.Amount)
}

func (p *passage) draw(amount int) {
	p.enter(api.Lent, amount)
}

func (p *passage) setRate(rate int) {
	p.state.rate = rate
}

func (p *passage) beginHoliday(days int) {
	p.state.free = max(p.state.free, p.day+days)
}

// capitalise leaves its argument aside: the event has no amount of its own.
func (p *passage) capitalise(int) {
	p.enter(api.Capitalised, p.state.accounts[api.Interest])
}

func (p *passage) pay(amount int) {
	for _, kind := range [...]int{api.PaidFine, api.PaidLate, api.PaidDue, api.PaidInterest, api.PaidPrincipal} {
		paid := min(amount, p.state.accounts[moves[kind].from])
		p.enter(kind, paid)
		amount -= paid
	}
	p.enter(api.Overpaid, amount)
}
