package accrue

import (
	"cmp"
	"slices"

	"accrue/api"
)

// amountLimits has the limits of an event's amount, by its kind.
var amountLimits = [...]limits{
	api.Draw:    {1, api.MaxAmount},
	api.Rate:    {0, api.MaxRate},
	api.Holiday: {1, api.MaxHoliday},
	api.Capital: {0, 0},
	api.Pay:     {1, api.MaxAmount},
}

// eventFault tells what is wrong with an event by itself, whatever other
// events its loan has.
func eventFault(t api.Terms, e api.Event) api.Errno {
	if e.Kind < api.Draw || e.Kind > api.Pay {
		return api.ErrKind
	}
	if !span(t).allow(e.Day) {
		return api.ErrDay
	}
	if !amountLimits[e.Kind].allow(e.Amount) {
		return api.ErrAmount
	}
	return api.OK
}

// compareEvents is the order in which events happen. (It compares, for a
// difference of two Seqs may not fit.)
func compareEvents(a, b api.Event) int {
	return cmp.Or(cmp.Compare(a.Day, b.Day), cmp.Compare(a.Kind, b.Kind), cmp.Compare(a.Seq, b.Seq))
}

// placeOfSeq is below 0 if there is no event with this Seq.
func placeOfSeq(events []api.Event, seq int) int {
	return slices.IndexFunc(events, func(e api.Event) bool { return e.Seq == seq })
}

// countOfDay counts the events of a day that stand at the head of a list.
func countOfDay(events []api.Event, day int) int {
	count := 0
	for count < len(events) && events[count].Day == day {
		count++
	}
	return count
}
