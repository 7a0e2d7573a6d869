// Package calendar tells days from dates and back, and what days weigh.
package calendar

import "accrue/api"

const (
	firstYear = 1900
	lastYear  = 2199
)

// civil is a day as a date names it.
type civil struct {
	year, month, day int
}

// IsDay tells whether a number is a day.
func IsDay(day int) bool {
	return 0 <= day && day <= api.MaxDay
}

func isLeap(year int) bool {
	return year%4 == 0 && (year%100 != 0 || year%400 == 0)
}

func monthLength(year, month int) int {
	switch month {
	case 2:
		if isLeap(year) {
			return 29
		}
		return 28
	case 4, 6, 9, 11:
		return 30
	}
	return 31
}

// leapYears counts the leap years from year 1 to the given one.
func leapYears(year int) int {
	return year/4 - year/100 + year/400
}

// yearStart is the day of a year's 1st of January.
func yearStart(year int) int {
	return 365*(year-firstYear) + leapYears(year-1) - leapYears(firstYear-1)
}

func isCivil(c civil) bool {
	return firstYear <= c.year && c.year <= lastYear &&
		1 <= c.month && c.month <= 12 &&
		1 <= c.day && c.day <= monthLength(c.year, c.month)
}

func dayOf(c civil) int {
	day := yearStart(c.year) + c.day - 1
	for month := 1; month < c.month; month++ {
		day += monthLength(c.year, month)
	}
	return day
}

// civilOf takes a day, or the one behind MaxDay: the weight of MaxDay asks for that.
func civilOf(day int) civil {
	// No year is longer than 366 days: the guess is never too late.
	year := firstYear + day/366
	for yearStart(year+1) <= day {
		year++
	}
	rest := day - yearStart(year)
	month := 1
	for rest >= monthLength(year, month) {
		rest -= monthLength(year, month)
		month++
	}
	return civil{year, month, rest + 1}
}

// DayOfMonth tells which day of its month a day is.
func DayOfMonth(day int) int {
	return civilOf(day).day
}
