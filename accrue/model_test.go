package accrue_test

import (
	"math/big"
	"math/rand"
	"sort"
	"testing"
	"time"

	"accrue/accrue"
	"accrue/api"
)

// model is a loan told once more, as the document words it: the calendar is
// the library's, and the interest of a day is worked out from the sum of all
// days, in numbers of any length.
type model struct {
	terms                                      api.Terms
	principal, interest, due, late, fine, rate int
	credit                                     int
	holidays                                   []api.Event
	interestSum, fineSum                       *big.Int
	// entries are the amounts of the day that was gone through last, by kinds.
	entries map[int]int
}

func newModel(terms api.Terms) *model {
	return &model{terms: terms, rate: terms.Rate, interestSum: new(big.Int), fineSum: new(big.Int)}
}

func modelDate(day int) time.Time {
	return time.Date(1900, 1, 1+day, 0, 0, 0, 0, time.UTC)
}

func (m *model) weight(day int) int {
	if m.terms.Basis != 3 {
		return 1
	}
	place := func(at time.Time) int {
		return 360*at.Year() + 30*int(at.Month()) + min(at.Day(), 30)
	}
	return place(modelDate(day+1)) - place(modelDate(day))
}

// more adds a product to a sum, and tells by how much the sum's whole cents grow.
func (m *model) more(sum *big.Int, factors ...int) int {
	cents := func() int64 {
		x := new(big.Int).Quo(sum, big.NewInt(1000000))
		year := map[int]int64{1: 365, 2: 360, 3: 360}[m.terms.Basis]
		return x.Quo(x, big.NewInt(year)).Int64()
	}
	before := cents()
	product := big.NewInt(1)
	for _, f := range factors {
		product.Mul(product, big.NewInt(int64(f)))
	}
	sum.Add(sum, product)
	return int(cents() - before)
}

func (m *model) inHoliday(day int) bool {
	for _, h := range m.holidays {
		if h.Day < day && day < h.Day+h.Amount {
			return true
		}
	}
	return false
}

func (m *model) happen(e api.Event) {
	switch e.Kind {
	case 1:
		m.principal += e.Amount
		m.entries[1] += e.Amount
	case 2:
		m.rate = e.Amount
	case 3:
		m.holidays = append(m.holidays, e)
	case 4:
		m.principal += m.interest
		m.entries[4] += m.interest
		m.interest = 0
	case 5:
		rest := e.Amount
		for i, owed := range []*int{&m.fine, &m.late, &m.due, &m.interest, &m.principal} {
			if *owed >= rest {
				m.entries[5+i] += rest
				*owed -= rest
				rest = 0
			} else {
				m.entries[5+i] += *owed
				rest -= *owed
				*owed = 0
			}
		}
		m.credit += rest
		m.entries[10] += rest
	}
}

func (m *model) pass(day int, events []api.Event) {
	m.entries = map[int]int{}
	if day == m.terms.Start {
		m.principal += m.terms.Principal
		m.entries[1] += m.terms.Principal
	}
	if modelDate(day).Day() == m.terms.Due && day != m.terms.Start && !m.inHoliday(day) {
		m.late += m.due
		m.entries[2] = m.due
		m.due = m.interest
		m.entries[3] = m.interest
		m.interest = 0
	}
	var today []api.Event
	for _, e := range events {
		if e.Day == day {
			today = append(today, e)
		}
	}
	sort.Slice(today, func(i, j int) bool {
		if today[i].Kind != today[j].Kind {
			return today[i].Kind < today[j].Kind
		}
		return today[i].Seq < today[j].Seq
	})
	for _, e := range today {
		m.happen(e)
	}
	m.entries[11] = m.more(m.interestSum, m.principal, m.rate, m.weight(day))
	m.interest += m.entries[11]
	m.entries[12] = m.more(m.fineSum, m.late, m.terms.Fine, m.weight(day))
	m.fine += m.entries[12]
}

// modelBalances tells the balances at Start and all days up to the given one.
func modelBalances(terms api.Terms, events []api.Event, to int) []api.Balance {
	m := newModel(terms)
	all := []api.Balance{}
	for day := terms.Start; ; day++ {
		all = append(all, api.Balance{Principal: m.principal, Interest: m.interest, Due: m.due, Late: m.late, Fine: m.fine, Credit: m.credit, Rate: m.rate, Day: day})
		if day == to {
			return all
		}
		m.pass(day, events)
	}
}

// someNumber tells a number from 0 to greatest: often an edge, often a small one.
func someNumber(r *rand.Rand, greatest int) int {
	switch r.Intn(5) {
	case 0:
		return 0
	case 1:
		return greatest
	case 2:
		return r.Intn(min(greatest, 1000) + 1)
	}
	return r.Intn(greatest + 1)
}

func someTerms(r *rand.Rand) api.Terms {
	return api.Terms{
		Start:     someNumber(r, api.MaxDay-api.MaxSpan),
		Principal: someNumber(r, api.MaxAmount),
		Rate:      someNumber(r, api.MaxRate),
		Fine:      someNumber(r, api.MaxRate),
		Basis:     1 + r.Intn(3),
		Due:       1 + r.Intn(28),
	}
}

// someEvents tells events of the first days of a loan, up to span, many on one day.
func someEvents(r *rand.Rand, terms api.Terms, span int) []api.Event {
	seqs := r.Perm(1000)
	days := []int{r.Intn(span), r.Intn(span), r.Intn(span)}
	var events []api.Event
	for i := range r.Intn(api.MaxEvents + 1) {
		kind := 1 + r.Intn(5)
		edge := amountEdges()[kind]
		day := r.Intn(span)
		if r.Intn(2) == 0 {
			day = days[r.Intn(len(days))]
		}
		events = append(events, api.Event{
			Day:    terms.Start + day,
			Kind:   kind,
			Seq:    seqs[i] - 500,
			Amount: edge[0] + someNumber(r, edge[1]-edge[0]),
		})
	}
	return events
}

func TestLoansAgainstTheModel(t *testing.T) {
	r := rand.New(rand.NewSource(1))
	for range 300 {
		terms := someTerms(r)
		span := 1 + r.Intn(200)
		events := someEvents(r, terms, span)
		want := modelBalances(terms, events, terms.Start+span)
		for days, b := range want {
			loan := open(t, terms, events...)
			run(t, loan, terms.Start+days)
			wantBalance(t, loan, b)
		}
		if t.Failed() {
			t.Fatalf("terms %+v, events %+v", terms, events)
		}
	}
}

func TestLongLoansAgainstTheModel(t *testing.T) {
	r := rand.New(rand.NewSource(2))
	for range 60 {
		terms := someTerms(r)
		events := someEvents(r, terms, api.MaxSpan)
		want := modelBalances(terms, events, terms.Start+api.MaxSpan)
		loan := open(t, terms, events...)
		for days := 0; days <= api.MaxSpan; days += 1 + r.Intn(400) {
			run(t, loan, terms.Start+days)
			wantBalance(t, loan, want[days])
		}
		run(t, loan, terms.Start+api.MaxSpan)
		wantBalance(t, loan, want[api.MaxSpan])
		if t.Failed() {
			t.Fatalf("terms %+v, events %+v", terms, events)
		}
	}
}

// The sum goes far beyond 64 bits: all that may be lent at all times at the greatest rate, made capital again and again.
func TestTheGreatestLoanAgainstTheModel(t *testing.T) {
	for basis := 1; basis <= 3; basis++ {
		for capitals := 0; capitals <= api.MaxEvents; capitals += 8 {
			terms := api.Terms{Start: start, Principal: api.MaxAmount, Rate: api.MaxRate, Fine: api.MaxRate, Basis: basis, Due: 28}
			var events []api.Event
			for i := range api.MaxEvents {
				if i < capitals {
					events = append(events, api.Event{Day: start + (i+1)*api.MaxSpan/(capitals+1), Kind: api.Capital, Seq: i})
				} else {
					events = append(events, api.Event{Day: start, Kind: api.Draw, Seq: i, Amount: api.MaxAmount})
				}
			}
			if capitals > 20 { // keep the interest from falling due, where there is room to tell so
				for i := range 10 {
					events[i] = api.Event{Day: start + 370*i, Kind: api.Holiday, Seq: i, Amount: api.MaxHoliday}
				}
			}
			want := modelBalances(terms, events, start+api.MaxSpan)
			wantAt(t, terms, events, start+api.MaxSpan, want[api.MaxSpan])
		}
	}
}

// However it is brought there, and whatever was told in between, a loan comes to the same.
func TestOneRunAgainstMany(t *testing.T) {
	r := rand.New(rand.NewSource(3))
	for range 300 {
		terms := someTerms(r)
		span := 1 + r.Intn(400)
		events := someEvents(r, terms, span)
		to := terms.Start + span
		want := modelBalances(terms, events, to)[span]
		once := open(t, terms, events...)
		run(t, once, to)
		wantBalance(t, once, want)

		daily := open(t, terms, events...)
		for day := terms.Start; day <= to; day++ {
			run(t, daily, day)
		}
		wantBalance(t, daily, want)

		late := open(t, terms)
		day := toldOnTheWay(t, r, late, events, terms.Start, to)
		if day > to {
			t.Fatalf("came to day %d", day)
		}
		run(t, late, to)
		wantBalance(t, late, want)
		if t.Failed() {
			t.Fatalf("terms %+v, events %+v", terms, events)
		}
	}
}

// toldOnTheWay adds the events in any order between runs, takes some back and tells them again.
func toldOnTheWay(t *testing.T, r *rand.Rand, loan *accrue.Loan, events []api.Event, day, to int) int {
	t.Helper()
	for _, i := range r.Perm(len(events)) {
		add(t, loan, events[i])
		if r.Intn(3) == 0 {
			day += r.Intn(to - day + 1)
			run(t, loan, day)
		}
		if r.Intn(3) == 0 {
			wantCancel(t, loan, events[i].Seq, api.OK)
			if r.Intn(2) == 0 {
				run(t, loan, day)
			}
			add(t, loan, events[i])
		}
	}
	return day
}
