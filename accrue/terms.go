package accrue

import (
	"accrue/api"
	"accrue/calendar"
)

// limits are the least and the greatest of what is allowed.
type limits struct {
	least, greatest int
}

func (l limits) allow(number int) bool {
	return l.least <= number && number <= l.greatest
}

func rightTerms(t api.Terms) bool {
	return limits{0, api.MaxDay - api.MaxSpan}.allow(t.Start) &&
		limits{0, api.MaxAmount}.allow(t.Principal) &&
		limits{0, api.MaxRate}.allow(t.Rate) &&
		limits{0, api.MaxRate}.allow(t.Fine) &&
		calendar.IsBasis(t.Basis) &&
		limits{1, 28}.allow(t.Due)
}

// span has the days of a loan.
func span(t api.Terms) limits {
	return limits{t.Start, t.Start + api.MaxSpan}
}
