package accrue_test

import (
	"math"
	"strings"
	"testing"
	"time"

	"accrue/accrue"
	"accrue/api"
)

// allDates lists the dates of all days, by the library's calendar.
func allDates() []string {
	dates := make([]string, 0, api.MaxDay+1)
	at := time.Date(1900, 1, 1, 0, 0, 0, 0, time.UTC)
	for at.Year() < 2200 {
		dates = append(dates, at.Format("2006-01-02"))
		at = at.AddDate(0, 0, 1)
	}
	return dates
}

func wantDay(t *testing.T, date string, want int) {
	t.Helper()
	if day, e := accrue.Day(date); day != want || e != api.OK {
		t.Errorf("Day(%q) = %d, %d, want %d", date, day, e, want)
	}
}

func wantNoDay(t *testing.T, text string) {
	t.Helper()
	if day, e := accrue.Day(text); day != 0 || e != api.ErrDate {
		t.Errorf("Day(%q) = %d, %d, want ErrDate", text, day, e)
	}
}

func wantDate(t *testing.T, day int, want string) {
	t.Helper()
	if date, e := accrue.Date(day); date != want || e != api.OK {
		t.Errorf("Date(%d) = %q, %d, want %q", day, date, e, want)
	}
}

func TestDayAndDateOfKnownDays(t *testing.T) {
	for date, day := range map[string]int{
		"1900-01-01": 0,
		"1900-01-31": 30,
		"1900-02-01": 31,
		"1900-02-28": 58,
		"1900-03-01": 59,
		"1900-12-31": 364,
		"1901-01-01": 365,
		"1904-02-29": 1519,
		"1970-01-01": 25567,
		"2000-01-01": 36524,
		"2000-02-28": 36582,
		"2000-02-29": 36583,
		"2000-03-01": 36584,
		"2100-02-28": 73107,
		"2100-03-01": 73108,
		"2199-12-31": 109572,
	} {
		wantDay(t, date, day)
		wantDate(t, day, date)
	}
}

func TestDayAndDateOfAllDays(t *testing.T) {
	dates := allDates()
	if len(dates) != api.MaxDay+1 {
		t.Fatalf("%d dates, want %d", len(dates), api.MaxDay+1)
	}
	for day, date := range dates {
		wantDay(t, date, day)
		wantDate(t, day, date)
		if t.Failed() {
			return
		}
	}
}

func TestDayOfWrongTexts(t *testing.T) {
	for _, text := range []string{
		"", "-", "--", "----------", "0000000000",
		"1900-02-29", "2100-02-29", "2001-02-29", "2000-02-30",
		"2001-04-31", "2001-06-31", "2001-09-31", "2001-11-31", "2001-01-32", "2001-12-32",
		"2000-00-01", "2000-13-01", "2000-01-00", "2000-99-99",
		"0000-01-01", "1899-12-31", "2200-01-01", "9999-12-31",
		"2000-1-01", "2000-01-1", "2000-1-1", "200-01-01", "02000-01-01", "2000-001-01", "2000-01-001",
		"2000/01/01", "2000-01/01", "2000/01-01", "20000101", "01-01-2000", "2000-01-01T00:00:00Z",
		"+200-01-01", "-200-01-01", "2000-+1-01", "2000--1-01", "2000-01-+1", "2000-01--1", "2000-01- 1", " 000-01-01",
		" 2000-01-01", "2000-01-01 ", "2000-01-01\n", "2000-01-01\x00", "2000-01-0\x00",
		"2_00-01-01", "0x7d-01-01", "2e03-01-01", "today", "２０００-01-01", "٢-01-01\xff",
		"2000\u201001\u201001", "2000-01-0\xff", strings.Repeat("2000-01-01", 100000), strings.Repeat("9", 1<<20),
	} {
		wantNoDay(t, text)
	}
}

// Every text that is one byte away from a date is a date only if the calendar has it.
func TestDayOfTextsBesideDates(t *testing.T) {
	days := map[string]int{}
	for day, date := range allDates() {
		days[date] = day
	}
	ask := func(text string) {
		t.Helper()
		if day, ok := days[text]; ok {
			wantDay(t, text, day)
		} else {
			wantNoDay(t, text)
		}
	}
	for _, date := range []string{"1900-01-01", "1900-02-28", "2000-02-29", "2001-10-30", "2100-02-28", "2199-12-31"} {
		for i := range len(date) + 1 {
			for b := range 256 {
				ask(date[:i] + string([]byte{byte(b)}) + date[i:])
				if i < len(date) {
					ask(date[:i] + string([]byte{byte(b)}) + date[i+1:])
				}
			}
			ask(date[:i])
			ask(date[i:])
		}
	}
}

func TestDateOfWrongNumbers(t *testing.T) {
	for _, day := range []int{-1, -365, api.MaxDay + 1, 2 * api.MaxDay, math.MaxInt32, math.MinInt32, math.MaxInt, math.MinInt, 1 << 32, -1 << 32} {
		if date, e := accrue.Date(day); date != "" || e != api.ErrDate {
			t.Errorf("Date(%d) = %q, %d, want ErrDate", day, date, e)
		}
	}
}

// What these calls answer must not depend on what was asked before, or on who else asks.
func TestDaysAnswerTheSameAgain(t *testing.T) {
	ask := func() [3]int {
		day, _ := accrue.Day("2000-02-29")
		date, _ := accrue.Date(36583)
		back, _ := accrue.Day(date)
		weight, _ := accrue.Weight(api.Thirty360, 0, 36583)
		return [3]int{day, back, weight}
	}
	want := [3]int{36583, 36583, 360*100 + 30 + 28}
	answers := make(chan [3]int)
	const askers = 8
	for n := range askers {
		go func() {
			accrue.Day("2000-02-30")
			accrue.Date(-n)
			accrue.Weight(n, n, 2*n)
			answers <- ask()
		}()
	}
	for range askers {
		if got := <-answers; got != want {
			t.Errorf("got %v, want %v", got, want)
		}
	}
}
