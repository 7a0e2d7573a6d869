package accrue_test

import (
	"math"
	"testing"
	"time"

	"accrue/accrue"
	"accrue/api"
)

func dayOf(t *testing.T, date string) int {
	t.Helper()
	day, e := accrue.Day(date)
	if e != api.OK {
		t.Fatalf("Day(%q): %d", date, e)
	}
	return day
}

func wantWeight(t *testing.T, basis, from, to, want int) {
	t.Helper()
	if weight, e := accrue.Weight(basis, from, to); weight != want || e != api.OK {
		t.Errorf("Weight(%d, %d, %d) = %d, %d, want %d", basis, from, to, weight, e, want)
	}
}

func TestWeightOfOneDayByThirty(t *testing.T) {
	for date, want := range map[string]int{
		"2001-02-27": 1, "2001-02-28": 3,
		"2000-02-28": 1, "2000-02-29": 2,
		"1900-02-28": 3, "2100-02-28": 3,
		"2001-01-29": 1, "2001-01-30": 0, "2001-01-31": 1,
		"2001-04-29": 1, "2001-04-30": 1,
		"2001-12-30": 0, "2001-12-31": 1,
		"1900-01-01": 1, "2199-12-30": 0,
	} {
		day := dayOf(t, date)
		wantWeight(t, api.Thirty360, day, day+1, want)
		wantWeight(t, api.Actual365, day, day+1, 1)
		wantWeight(t, api.Actual360, day, day+1, 1)
	}
}

func TestWeightOfSpans(t *testing.T) {
	for _, c := range []struct {
		from, to       string
		actual, thirty int
	}{
		{"2001-01-01", "2001-02-01", 31, 30},
		{"2001-02-01", "2001-03-01", 28, 30},
		{"2000-02-01", "2000-03-01", 29, 30},
		{"2001-01-31", "2001-02-28", 28, 28},
		{"2001-01-30", "2001-03-31", 60, 60},
		{"2001-02-28", "2001-03-31", 31, 32},
		{"2001-01-15", "2001-07-15", 181, 180},
		{"2000-01-01", "2001-01-01", 366, 360},
		{"1900-01-01", "1901-01-01", 365, 360},
		{"2100-01-01", "2101-01-01", 365, 360},
		{"1900-01-01", "2000-01-01", 36524, 36000},
		{"1900-01-01", "2199-12-31", 109572, 107999},
	} {
		from, to := dayOf(t, c.from), dayOf(t, c.to)
		wantWeight(t, api.Actual365, from, to, c.actual)
		wantWeight(t, api.Actual360, from, to, c.actual)
		wantWeight(t, api.Thirty360, from, to, c.thirty)
	}
}

// sumsByThirty adds the weights up day by day, by the library's calendar: at each day, those of all days ahead of it.
func sumsByThirty() []int {
	sums := []int{0}
	place := func(at time.Time) int {
		return 360*at.Year() + 30*int(at.Month()) + min(at.Day(), 30)
	}
	at := time.Date(1900, 1, 1, 0, 0, 0, 0, time.UTC)
	for day := range api.MaxDay {
		next := at.AddDate(0, 0, 1)
		sums = append(sums, sums[day]+place(next)-place(at))
		at = next
	}
	return sums
}

func TestWeightIsTheSumOfTheDays(t *testing.T) {
	sums := sumsByThirty()
	ask := func(from, to int) {
		t.Helper()
		wantWeight(t, api.Actual365, from, to, to-from)
		wantWeight(t, api.Actual360, from, to, to-from)
		wantWeight(t, api.Thirty360, from, to, sums[to]-sums[from])
	}
	for day := range api.MaxDay + 1 {
		ask(0, day)
		ask(day, day)
		ask(day, min(day+1, api.MaxDay))
		ask(day, api.MaxDay)
		if t.Failed() {
			return
		}
	}
	for from := 0; from <= api.MaxDay; from += 457 {
		for to := from; to <= api.MaxDay; to += 331 {
			ask(from, to)
		}
	}
}

// The basis is named ahead of the days: it is what is told if both are wrong.
func TestWeightOfWrongNumbers(t *testing.T) {
	isBasis := map[int]int{api.Actual365: 1, api.Actual360: 1, api.Thirty360: 1}
	numbers := []int{math.MinInt, math.MinInt32, -1, 0, 1, 2, 3, 4, 5, 36524, api.MaxDay - 1, api.MaxDay, api.MaxDay + 1, math.MaxInt32, 1<<32 + 1, math.MaxInt}
	for _, basis := range numbers {
		for _, from := range numbers {
			for _, to := range numbers {
				want := api.OK
				switch {
				case isBasis[basis] == 0:
					want = api.ErrBasis
				case from < 0, from > api.MaxDay, to < 0, to > api.MaxDay, to < from:
					want = api.ErrDate
				}
				weight, e := accrue.Weight(basis, from, to)
				if e != want || (e != api.OK && weight != 0) {
					t.Errorf("Weight(%d, %d, %d) = %d, %d, want error %d", basis, from, to, weight, e, want)
				}
			}
		}
	}
}
