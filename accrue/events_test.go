package accrue_test

import (
	"math"
	"testing"

	"accrue/accrue"
	"accrue/api"
)

func add(t *testing.T, loan *accrue.Loan, event api.Event) {
	t.Helper()
	wantAdd(t, loan, event, api.OK)
}

func wantAdd(t *testing.T, loan *accrue.Loan, event api.Event, want api.Errno) {
	t.Helper()
	if e := loan.Add(event); e != want {
		t.Errorf("Add(%+v) = %d, want %d", event, e, want)
	}
}

func wantCancel(t *testing.T, loan *accrue.Loan, seq int, want api.Errno) {
	t.Helper()
	if e := loan.Cancel(seq); e != want {
		t.Errorf("Cancel(%d) = %d, want %d", seq, e, want)
	}
}

// amountEdges tells the least and the greatest amount of each kind.
func amountEdges() map[int][2]int {
	return map[int][2]int{
		api.Draw:    {1, 100000000000},
		api.Rate:    {0, 1000000},
		api.Holiday: {1, 400},
		api.Capital: {0, 0},
		api.Pay:     {1, 100000000000},
	}
}

func TestAddAtTheEdgesOfAmounts(t *testing.T) {
	for kind, edge := range amountEdges() {
		loan := open(t, plain)
		add(t, loan, api.Event{Day: start, Kind: kind, Seq: 1, Amount: edge[0]})
		add(t, loan, api.Event{Day: start, Kind: kind, Seq: 2, Amount: edge[1]})
		for _, wrong := range []int{edge[0] - 1, edge[1] + 1, -1, math.MinInt, math.MaxInt, -edge[1] - 1} {
			wantAdd(t, loan, api.Event{Day: start, Kind: kind, Seq: 3, Amount: wrong}, api.ErrAmount)
		}
		wantCancel(t, loan, 3, api.ErrNone)
	}
}

func TestAddAtTheEdgesOfDays(t *testing.T) {
	for _, first := range []int{0, start, api.MaxDay - api.MaxSpan} {
		terms := plain
		terms.Start = first
		loan := open(t, terms)
		add(t, loan, api.Event{Day: first, Kind: api.Pay, Seq: 1, Amount: 1})
		add(t, loan, api.Event{Day: first + 3700, Kind: api.Pay, Seq: 2, Amount: 1})
		for _, wrong := range []int{first - 1, first + 3701, -1, math.MinInt, math.MaxInt} {
			wantAdd(t, loan, api.Event{Day: wrong, Kind: api.Pay, Seq: 3, Amount: 1}, api.ErrDay)
		}
	}
}

func TestAddOfKindsThatAreNot(t *testing.T) {
	loan := open(t, plain)
	for _, kind := range []int{0, 6, -1, 12, math.MinInt, math.MaxInt, 1<<32 + 1} {
		for _, amount := range []int{0, 1, -1} {
			wantAdd(t, loan, api.Event{Day: start, Kind: kind, Seq: 1, Amount: amount}, api.ErrKind)
		}
	}
}

func TestAddTakesAnySeq(t *testing.T) {
	loan := open(t, plain)
	for _, seq := range []int{math.MaxInt, math.MinInt, 0, -1, 1} {
		event := api.Event{Day: start, Kind: api.Pay, Seq: seq, Amount: 1}
		add(t, loan, event)
		wantAdd(t, loan, event, api.ErrSeq)
		// A Seq is one of the whole loan, not of a day or a kind.
		wantAdd(t, loan, api.Event{Day: start + 9, Kind: api.Capital, Seq: seq}, api.ErrSeq)
	}
}

// fill gives a loan as many events as it may have, with the Seqs 1 to 40.
func fill(t *testing.T, loan *accrue.Loan) {
	t.Helper()
	for seq := 1; seq <= 40; seq++ {
		add(t, loan, api.Event{Day: start + seq, Kind: api.Pay, Seq: seq, Amount: 1})
	}
}

func TestAddOfTooMany(t *testing.T) {
	loan := open(t, plain)
	fill(t, loan)
	more := api.Event{Day: start, Kind: api.Pay, Seq: 41, Amount: 1}
	wantAdd(t, loan, more, api.ErrMany)
	wantCancel(t, loan, 41, api.ErrNone)
	wantCancel(t, loan, 17, api.OK)
	add(t, loan, more)
	wantAdd(t, loan, api.Event{Day: start, Kind: api.Pay, Seq: 17, Amount: 1}, api.ErrMany)
	run(t, loan, start+50)
	wantAdd(t, loan, api.Event{Day: start + 60, Kind: api.Pay, Seq: 17, Amount: 1}, api.ErrMany)
}

// Of several errors the one that stands first in the promise is told.
func TestAddOfSeveralErrors(t *testing.T) {
	few := open(t, plain, api.Event{Day: start, Kind: api.Pay, Seq: 1, Amount: 1})
	full := open(t, plain)
	fill(t, full)
	for _, loan := range []*accrue.Loan{few, full} {
		wantAdd(t, loan, api.Event{Day: -1, Kind: 0, Seq: 1, Amount: -1}, api.ErrKind)
		wantAdd(t, loan, api.Event{Day: start, Kind: 6, Seq: 1, Amount: -1}, api.ErrKind)
		wantAdd(t, loan, api.Event{Day: start - 1, Kind: api.Draw, Seq: 1, Amount: 0}, api.ErrDay)
		wantAdd(t, loan, api.Event{Day: start + 3701, Kind: api.Draw, Seq: 1, Amount: 1}, api.ErrDay)
		wantAdd(t, loan, api.Event{Day: start, Kind: api.Draw, Seq: 1, Amount: 0}, api.ErrAmount)
	}
	wantAdd(t, few, api.Event{Day: start, Kind: api.Draw, Seq: 1, Amount: 1}, api.ErrSeq)
	wantAdd(t, full, api.Event{Day: start, Kind: api.Draw, Seq: 1, Amount: 1}, api.ErrMany)
}

func TestCancel(t *testing.T) {
	loan := open(t, plain)
	wantCancel(t, loan, 0, api.ErrNone)
	fill(t, loan)
	for _, seq := range []int{0, 41, -1, math.MinInt, math.MaxInt} {
		wantCancel(t, loan, seq, api.ErrNone)
	}
	for seq := 40; seq >= 1; seq-- {
		wantCancel(t, loan, seq, api.OK)
		wantCancel(t, loan, seq, api.ErrNone)
	}
	run(t, loan, start+2)
	wantBalance(t, loan, api.Balance{Principal: 36500000, Interest: 2000, Rate: 10000, Day: start + 2})
}

// Cancel takes the one event, and leaves those beside it on its day.
func TestCancelOfOneAmongSeveral(t *testing.T) {
	for gone, paid := range map[int]int{1: 110, 2: 101, 3: 11} {
		loan := open(t, plain,
			api.Event{Day: start + 1, Kind: api.Pay, Seq: 3, Amount: 100},
			api.Event{Day: start + 1, Kind: api.Pay, Seq: 1, Amount: 1},
			api.Event{Day: start + 1, Kind: api.Pay, Seq: 2, Amount: 10})
		wantCancel(t, loan, gone, api.OK)
		run(t, loan, start+2)
		wantBalance(t, loan, api.Balance{Principal: 36500000, Interest: 2000 - paid, Rate: 10000, Day: start + 2})
	}
}

// A refused call leaves no trace.
func TestRefusedCallsChangeNothing(t *testing.T) {
	pay := api.Event{Day: start + 1, Kind: api.Pay, Seq: 1, Amount: 500}
	loan := open(t, plain, pay)
	run(t, loan, start+3)
	before := loan.Balance()
	wantAdd(t, loan, api.Event{Day: start + 1, Kind: api.Pay, Seq: 1, Amount: 7}, api.ErrSeq)
	wantAdd(t, loan, api.Event{Day: start + 1, Kind: api.Pay, Seq: 2, Amount: 0}, api.ErrAmount)
	wantAdd(t, loan, api.Event{Day: start - 1, Kind: api.Pay, Seq: 2, Amount: 1}, api.ErrDay)
	wantAdd(t, loan, api.Event{Day: start + 1, Kind: 9, Seq: 2, Amount: 1}, api.ErrKind)
	wantCancel(t, loan, 2, api.ErrNone)
	wantRun(t, loan, start+2, api.ErrDay)
	wantRun(t, loan, start+3701, api.ErrDay)
	wantBalance(t, loan, before)
	run(t, loan, start+3)
	wantBalance(t, loan, before)
}
