package calendar

import (
	"testing"

	"accrue/api"
)

func TestTheDayBehindMaxDay(t *testing.T) {
	if got, want := civilOf(api.MaxDay+1), (civil{2200, 1, 1}); got != want {
		t.Errorf("civilOf(MaxDay + 1) = %v, want %v", got, want)
	}
	for _, basis := range []int{api.Actual365, api.Actual360, api.Thirty360} {
		if got := Weight(basis, api.MaxDay, api.MaxDay+1); got != 1 {
			t.Errorf("by basis %d MaxDay weighs %d, want 1", basis, got)
		}
	}
}

func TestTheYearsFillTheDays(t *testing.T) {
	if first, behind := yearStart(firstYear), yearStart(lastYear+1); first != 0 || behind != api.MaxDay+1 {
		t.Errorf("the years go from day %d to ahead of day %d", first, behind)
	}
}

func TestLeapYears(t *testing.T) {
	for year, want := range map[int]bool{1900: false, 1904: true, 1999: false, 2000: true, 2001: false, 2004: true, 2100: false, 2104: true, 2196: true, 2199: false} {
		if isLeap(year) != want {
			t.Errorf("isLeap(%d) = %t", year, !want)
		}
	}
}

func TestDayOfAndCivilOfAreInverse(t *testing.T) {
	for day := range api.MaxDay + 2 {
		if c := civilOf(day); dayOf(c) != day {
			t.Fatalf("day %d is %v, which is day %d", day, c, dayOf(c))
		}
	}
}
