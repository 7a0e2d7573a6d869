package calendar

import "accrue/api"

// IsBasis tells whether there is such a basis.
func IsBasis(basis int) bool {
	return basis == api.Actual365 || basis == api.Actual360 || basis == api.Thirty360
}

// Year is what a year counts by a basis.
func Year(basis int) int {
	if basis == api.Actual365 {
		return 365
	}
	return 360
}

// Weight is the sum of the weights of the days from from on, ahead of to.
// The weights are differences from one day to the next, so the sum is the
// difference of the ends. To may be the day behind MaxDay.
func Weight(basis, from, to int) int {
	if basis == api.Thirty360 {
		return thirty(to) - thirty(from)
	}
	return to - from
}

// thirty is the document's t: a day's place where all months have 30 days.
func thirty(day int) int {
	c := civilOf(day)
	return 360*c.year + 30*c.month + min(c.day, 30)
}
