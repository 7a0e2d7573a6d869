package calendar

import "strconv"

const dateLength = len("yyyy-mm-dd")

// Parse tells a date's day, and whether the text is a date at all.
func Parse(date string) (int, bool) {
	if len(date) != dateLength || date[4] != '-' || date[7] != '-' {
		return 0, false
	}
	year, yearOK := digits(date[:4])
	month, monthOK := digits(date[5:7])
	day, dayOK := digits(date[8:])
	c := civil{year, month, day}
	if !yearOK || !monthOK || !dayOK || !isCivil(c) {
		return 0, false
	}
	return dayOf(c), true
}

// digits reads a number; strconv.Atoi would let a sign pass.
func digits(text string) (int, bool) {
	n := 0
	for i := range len(text) {
		if text[i] < '0' || text[i] > '9' {
			return 0, false
		}
		n = 10*n + int(text[i]-'0')
	}
	return n, true
}

// Format tells the date of a day (see IsDay).
func Format(day int) string {
	c := civilOf(day)
	return strconv.Itoa(c.year) + "-" + twoDigits(c.month) + "-" + twoDigits(c.day)
}

func twoDigits(n int) string {
	if n < 10 {
		return "0" + strconv.Itoa(n)
	}
	return strconv.Itoa(n)
}
