package owed

import "math/bits"

// million is what a rate of one whole a year is.
const million = 1000000

// perYear tells how many whole cents an amount brings, at a rate a year times
// a day's weight, with what was left of the days before; and what is left now.
// Carrying the rest on makes the days' cents add up to those of the sum of
// all days. The product may be longer than 64 bits; the quotient is not, for
// a rate is at most a million.
func perYear(amount, rate, year int, rest uint64) (int, uint64) {
	high, low := bits.Mul64(uint64(amount), uint64(rate))
	low, carry := bits.Add64(low, rest, 0)
	cents, rest := bits.Div64(high+carry, low, uint64(million*year))
	return int(cents), rest
}
