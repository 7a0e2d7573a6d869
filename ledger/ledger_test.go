package ledger

import (
	"math"
	"slices"
	"testing"

	"accrue/api"
	"accrue/owed"
)

func wantEntries(t *testing.T, b *Book, want ...api.Entry) {
	t.Helper()
	if got := b.From(0); !slices.Equal(got, want) {
		t.Errorf("entries:\n got %v\nwant %v", got, want)
	}
}

func TestPutRight(t *testing.T) {
	b := New()
	b.PutRight(7, owed.Amounts{})
	wantEntries(t, b)
	b.PutRight(7, owed.Amounts{api.Lent: 5, api.Fined: 6})
	b.PutRight(7, owed.Amounts{api.Lent: 5, api.Fined: 6})
	wantEntries(t, b, api.Entry{Day: 7, Kind: 1, Amount: 5}, api.Entry{Day: 7, Kind: 12, Amount: 6})
	b = New()
	b.PutRight(7, owed.Amounts{api.Lent: 5, api.Fined: 6})
	b.PutRight(7, owed.Amounts{api.Lent: 4, api.PaidFine: 3})
	wantEntries(t, b, api.Entry{Day: 7, Kind: 1, Amount: 5}, api.Entry{Day: 7, Kind: 12, Amount: 6},
		api.Entry{Day: 7, Kind: 1, Amount: -5}, api.Entry{Day: 7, Kind: 1, Amount: 4},
		api.Entry{Day: 7, Kind: 5, Amount: 3}, api.Entry{Day: 7, Kind: 12, Amount: -6})
}

// Days and kinds are apart, though their numbers may change places.
func TestSlotsAreApart(t *testing.T) {
	b := New()
	b.PutRight(2, owed.Amounts{3: 1})
	b.PutRight(3, owed.Amounts{2: 1})
	b.PutRight(1, owed.Amounts{2: 1, 3: 1})
	wantEntries(t, b, api.Entry{Day: 2, Kind: 3, Amount: 1}, api.Entry{Day: 3, Kind: 2, Amount: 1}, api.Entry{Day: 1, Kind: 2, Amount: 1}, api.Entry{Day: 1, Kind: 3, Amount: 1})
}

// Sums wrap round: what is there is taken back all the same.
func TestSumsThatWrapRound(t *testing.T) {
	for _, c := range []struct {
		there []int
		back  []int
	}{
		{[]int{math.MaxInt, 1}, []int{math.MinInt}},
		{[]int{math.MinInt}, []int{math.MinInt}},
		{[]int{math.MinInt, -1}, []int{-math.MaxInt}},
		{[]int{math.MaxInt, math.MaxInt, 2}, nil},
		{[]int{math.MinInt, math.MinInt}, nil},
	} {
		b := New()
		for _, amount := range c.there {
			b.Write(api.Entry{Day: 7, Kind: api.Lent, Amount: amount})
		}
		b.PutRight(7, owed.Amounts{})
		var back []int
		for _, e := range b.From(len(c.there)) {
			back = append(back, e.Amount)
		}
		if !slices.Equal(back, c.back) {
			t.Errorf("of %v is taken back %v, want %v", c.there, back, c.back)
		}
		if a := b.Accounts(); a != (owed.Accounts{}) {
			t.Errorf("of %v the accounts are left at %v", c.there, a)
		}
	}
}

// Each kind moves its amount from one account to another, as the document lists them.
func TestTheMoveOfEachKind(t *testing.T) {
	for kind, c := range map[int][2]int{
		1: {1, 0}, 2: {4, 3}, 3: {3, 2}, 4: {1, 2}, 5: {0, 5}, 6: {0, 4}, 7: {0, 3}, 8: {0, 2}, 9: {0, 1}, 10: {0, 6}, 11: {2, 7}, 12: {5, 8},
	} {
		b := New()
		b.Write(api.Entry{Day: 7, Kind: kind, Amount: 9})
		b.Write(api.Entry{Day: 8, Kind: kind, Amount: -2})
		var want owed.Accounts
		want[c[0]], want[c[1]] = 7, -7
		if got := b.Accounts(); got != want {
			t.Errorf("kind %d: accounts %v, want %v", kind, got, want)
		}
	}
}
