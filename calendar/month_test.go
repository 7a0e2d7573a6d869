package calendar

import (
	"testing"
	"time"

	"accrue/api"
)

func TestDayOfMonthOfAllDays(t *testing.T) {
	at := time.Date(1900, 1, 1, 0, 0, 0, 0, time.UTC)
	for day := range api.MaxDay + 1 {
		if got := DayOfMonth(day); got != at.Day() {
			t.Fatalf("DayOfMonth(%d) = %d, want %d", day, got, at.Day())
		}
		at = at.AddDate(0, 0, 1)
	}
}

func TestYear(t *testing.T) {
	for basis, want := range map[int]int{api.Actual365: 365, api.Actual360: 360, api.Thirty360: 360} {
		if got := Year(basis); got != want {
			t.Errorf("Year(%d) = %d, want %d", basis, got, want)
		}
	}
}
