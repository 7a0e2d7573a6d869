package accrue_test

import (
	"math"
	"math/big"
	"strconv"
	"strings"
	"testing"

	"accrue/accrue"
	"accrue/api"
)

// someLines are those of a right text, of which balance and book say anything.
func someLines() []string {
	return []string{
		"loan 36524 36500000 10000 20000 1 15",
		"event 36525 2 10 5",
		"event 36525 5 9 3",
		"event 36530 4 -7 0",
		"at 36527",
		"now 11 -2 13 14 15 16 17",
		"entry 36524 1 36500000",
		"entry 36526 12 -5",
		"entry 36524 11 9",
		"end",
	}
}

// with puts other lines in the place of one.
func with(lines []string, place int, others ...string) []string {
	changed := append([]string{}, lines[:place]...)
	return append(append(changed, others...), lines[place+1:]...)
}

// load asks that a text is right: it becomes a loan with the text as its Save.
func load(t *testing.T, text string) *accrue.Loan {
	t.Helper()
	loan, e := accrue.Load(text)
	if loan == nil || e != api.OK {
		t.Fatalf("Load(%.1000q): loan %t, error %d", text, loan != nil, e)
	}
	wantSave(t, loan, text)
	return loan
}

func wantNoText(t *testing.T, text string) {
	t.Helper()
	if loan, e := accrue.Load(text); loan != nil || e != api.ErrText {
		t.Errorf("Load(%.1000q): loan %t, error %d, want ErrText", text, loan != nil, e)
	}
}

// wantLoad asks that a text is right, or that it is not.
func wantLoad(t *testing.T, right bool, text string) {
	t.Helper()
	if right {
		load(t, text)
	} else {
		wantNoText(t, text)
	}
}

func number(n int) string {
	return strconv.Itoa(n)
}

func TestLoadOfTheDocumentsText(t *testing.T) {
	loan := load(t, "loan 36524 36500000 10000 0 1 15\nat 36524\nnow 0 0 0 0 0 0 10000\nend\n")
	wantBalance(t, loan, api.Balance{Rate: 10000, Day: 36524})
	wantBook(t, loan, 0)
	wantAccounts(t, loan, make([]int, 9)...)
	run(t, loan, 36526)
	wantBalance(t, loan, api.Balance{Principal: 36500000, Interest: 2000, Rate: 10000, Day: 36526})
	wantBook(t, loan, 0, entry(0, api.Lent, 36500000), entry(0, api.Earned, 1000), entry(1, api.Earned, 1000))
}

// Each number of a text is found again where the calls tell it.
func TestLoadPutsEachNumberInItsPlace(t *testing.T) {
	loan := load(t, textOf(someLines()...))
	wantBalance(t, loan, api.Balance{Principal: 11, Interest: -2, Due: 13, Late: 14, Fine: 15, Credit: 16, Rate: 17, Day: 36527})
	wantBook(t, loan, 0, entry(0, api.Lent, 36500000), entry(2, api.Fined, -5), entry(0, api.Earned, 9))
	wantAccounts(t, loan, -36500000, 36500000, 9, 0, 0, -5, 0, -9, 5)
	for _, seq := range []int{10, 9, -7} {
		wantCancel(t, loan, seq, api.OK)
	}
	wantCancel(t, loan, 10, api.ErrNone)
	wantSave(t, loan, textOf(append(someLines()[:1], someLines()[4:]...)...))
}

// The terms and events that were loaded are those that the next runs go by.
func TestLoadedTermsAndEventsAreGoneBy(t *testing.T) {
	lines := with(someLines(), 0, "loan 36524 1000000000 30000 20000 3 2")
	loan := load(t, textOf(lines...))
	run(t, loan, 36600)
	opened := open(t, api.Terms{Start: 36524, Principal: 1000000000, Rate: 30000, Fine: 20000, Basis: 3, Due: 2},
		api.Event{Day: 36525, Kind: 2, Seq: 10, Amount: 5}, api.Event{Day: 36525, Kind: 5, Seq: 9, Amount: 3}, api.Event{Day: 36530, Kind: 4, Seq: -7})
	run(t, opened, 36600)
	wantBalance(t, loan, opened.Balance())
	wantSums(t, loan, opened.Book(0))
	wantAccounts(t, loan, opened.Accounts()...)
}

// Of events and entries there may be fewer; of entries, more, and the same again. All else stands once.
func TestLinesLeftOutOrToldTwice(t *testing.T) {
	lines := someLines()
	for i, line := range lines {
		isEntry, isEvent := strings.HasPrefix(line, "entry"), strings.HasPrefix(line, "event")
		wantLoad(t, isEntry || isEvent, textOf(with(lines, i)...))
		wantLoad(t, isEntry, textOf(with(lines, i, line, line)...))
		wantNoText(t, textOf(with(lines, i, "")...))
		wantNoText(t, textOf(with(lines, i, "", line)...))
		wantNoText(t, textOf(with(lines, i, line, "")...))
		wantNoText(t, textOf(with(lines, i, "more", line)...))
		wantNoText(t, textOf(with(lines, i, "# more", line)...))
	}
	load(t, textOf(lines[0], lines[4], lines[5], lines[9]))
	load(t, textOf(lines[0], lines[4], lines[5], lines[6], lines[9]))
	load(t, textOf(lines[0], lines[1], lines[4], lines[5], lines[9]))
}

// A line at any other place is out of its order, but for entries among entries.
func TestLinesOutOfOrder(t *testing.T) {
	lines := someLines()
	for from, line := range lines {
		for to := range lines {
			if from == to {
				continue
			}
			moved := with(lines, from)
			moved = append(append(append([]string{}, moved[:to]...), line), moved[to:]...)
			wantLoad(t, 6 <= from && from <= 8 && 6 <= to && to <= 8, textOf(moved...))
			swapped := append([]string{}, lines...)
			swapped[from], swapped[to] = swapped[to], swapped[from]
			wantLoad(t, 6 <= from && from <= 8 && 6 <= to && to <= 8, textOf(swapped...))
		}
	}
}

// A word too few or too many at each place of each line, and each word of another form.
func TestWordsTooFewTooManyOrOthers(t *testing.T) {
	lines := someLines()
	for i, line := range lines {
		words := strings.Split(line, " ")
		for j, word := range words {
			wantNoText(t, textOf(with(lines, i, strings.Join(with(words, j), " "))...))
			for _, more := range []string{word, "0", "1", "", "end"} {
				wantNoText(t, textOf(with(lines, i, strings.Join(with(words, j, more, word), " "))...))
				wantNoText(t, textOf(with(lines, i, strings.Join(with(words, j, word, more), " "))...))
			}
			for _, other := range otherForms(word) {
				wantNoText(t, textOf(with(lines, i, strings.Join(with(words, j, other), " "))...))
			}
		}
	}
}

// otherForms lists what is neither the word nor, in the place of a number, another number.
func otherForms(word string) []string {
	others := []string{"-0", "+0", "00", "-00", "-", "+", "--1", "1-", "0x1", "1_0", "1.0", "1e0", "x", "\u0661", "\uff11", "\x00", "\xff",
		"9223372036854775808", "-9223372036854775809", "18446744073709551615", "18446744073709551616", "99999999999999999999", "-99999999999999999999", strings.Repeat("1", 500), strings.Repeat("0", 500),
		"0" + word, "00" + word, "-0" + word, "+" + word, "--" + word, " " + word, word + " ", "\t" + word, word + "\t", word + "\r", word + "\x00", "\x00" + word, word + "\v", word + "\u00a0", "\ufeff" + word, word + "\n", "\n" + word, word + ",", `"` + word + `"`}
	n, isNumber := new(big.Int).SetString(word, 10)
	if !isNumber {
		return append(others, strings.ToUpper(word), strings.ToUpper(word[:1])+word[1:], word+"s", "1", "0")
	}
	// What becomes the same number, if it is wrapped round at 64 bits.
	round := new(big.Int).Lsh(big.NewInt(1), 64)
	return append(others, new(big.Int).Add(n, round).String(), new(big.Int).Sub(n, round).String())
}

func TestOtherSignsThanBlankAndLF(t *testing.T) {
	text := textOf(someLines()...)
	for _, other := range []string{"\r\n", "\r", "\n\r", "\n\n", "\v", "\f", "\u0085", "\u2028", " ", "", ";", "\\n", "\x00"} {
		wantNoText(t, strings.ReplaceAll(text, "\n", other))
	}
	for _, other := range []string{"  ", "\t", "", "\u00a0", "\u2003", ",", "\r", "\v", "\f", "\x00", " \t", "_"} {
		wantNoText(t, strings.ReplaceAll(text, " ", other))
	}
	for i, line := range someLines() {
		for _, other := range []string{" " + line, line + " ", line + "\r", line + "\t", "\t" + line, line + "\x00", line + " #", line + ";", strings.ToUpper(line), strings.Replace(line, " ", "  ", 1) + " "} {
			wantNoText(t, textOf(with(someLines(), i, other)...))
		}
	}
	wantNoText(t, "\ufeff"+text)
}

func TestTheEndOfATextAndWhatIsBehind(t *testing.T) {
	text := textOf(someLines()...)
	for length := range len(text) {
		wantNoText(t, text[:length])
		if length > 0 {
			wantNoText(t, text[length:])
		}
	}
	for _, behind := range []string{"\n", " ", "\x00", "\r", "e", "end", "end\n", "entry 36524 1 1\n", "event 36531 5 1 1\n", "at 36527\n", text, "\n" + text, "# more"} {
		wantNoText(t, text+behind)
		wantNoText(t, behind+text)
	}
}

func TestLoadOfTextsThatAreNone(t *testing.T) {
	for _, text := range []string{"", "\n", " ", "\x00", "loan", "loan\n", "end", "end\n", "loan\nat\nnow\nend\n", "loan 0 0 0 0 1 1\nend\n", "\xff\xfe\xfd", "at 0\nnow 0 0 0 0 0 0 0\nend\n"} {
		wantNoText(t, text)
	}
	const many = 1 << 20
	for _, sign := range []string{" ", "\n", "0", "9", "-", "\x00", "\xff", "loan", "loan ", "loan\n", "end\n", "entry 0 1 1\n", "event 0 5 1 1\n"} {
		wantNoText(t, strings.Repeat(sign, many))
		wantNoText(t, "loan 0 0 0 0 1 1"+strings.Repeat(sign, many))
		wantNoText(t, "loan 0 0 0 0 1 1\n"+strings.Repeat(sign, many))
		wantNoText(t, "loan 0 0 0 0 1 1\nat 0\nnow 0 0 0 0 0 0 "+strings.Repeat(sign, many)+"\nend\n")
	}
}

// termsLine is the first line of a text.
func termsLine(t api.Terms) string {
	return "loan " + number(t.Start) + " " + number(t.Principal) + " " + number(t.Rate) + " " + number(t.Fine) + " " + number(t.Basis) + " " + number(t.Due)
}

func TestLoadAtTheEdgesOfTheTerms(t *testing.T) {
	text := func(terms api.Terms) string {
		return textOf(termsLine(terms), "at "+number(terms.Start), "now 0 0 0 0 0 0 0", "end")
	}
	for _, f := range termsFields() {
		for _, right := range []int{f.least, f.least + 1, f.greatest - 1, f.greatest} {
			terms := plain
			*f.of(&terms) = right
			load(t, text(terms))
		}
		for _, wrong := range []int{f.least - 1, f.greatest + 1, -1, math.MinInt, math.MaxInt, -f.greatest - 1, 1<<40 + 1, 1<<32 + f.greatest} {
			terms := plain
			*f.of(&terms) = wrong
			wantNoText(t, text(terms))
		}
	}
}

// withEvents is a right text but for its events, maybe.
func withEvents(events ...string) string {
	lines := append([]string{"loan 36524 36500000 10000 0 1 15"}, events...)
	return textOf(append(lines, "at 36530", "now 0 0 0 0 0 0 0", "end")...)
}

func eventLine(day, kind, seq, amount int) string {
	return "event " + number(day) + " " + number(kind) + " " + number(seq) + " " + number(amount)
}

func TestLoadAtTheEdgesOfEvents(t *testing.T) {
	for kind, edge := range amountEdges() {
		for _, right := range edge {
			load(t, withEvents(eventLine(start+1, kind, 4, right)))
		}
		for _, wrong := range []int{edge[0] - 1, edge[1] + 1, -1, math.MinInt, math.MaxInt} {
			wantNoText(t, withEvents(eventLine(start+1, kind, 4, wrong)))
		}
		// The loan's day is no limit to its events.
		for _, right := range []int{start, start + 5, start + 6, start + 7, start + 3700} {
			load(t, withEvents(eventLine(right, kind, 4, edge[0])))
		}
		for _, wrong := range []int{start - 1, start + 3701, 0, -start, math.MinInt, math.MaxInt} {
			wantNoText(t, withEvents(eventLine(wrong, kind, 4, edge[0])))
		}
		for _, seq := range []int{math.MinInt, -1, 0, 1, math.MaxInt} {
			load(t, withEvents(eventLine(start, kind, seq, edge[0])))
		}
	}
	for _, kind := range []int{0, 6, -1, 12, math.MinInt, math.MaxInt, 1<<32 + 1} {
		for _, amount := range []int{0, 1} {
			wantNoText(t, withEvents(eventLine(start, kind, 4, amount)))
		}
	}
}

func TestLoadOfTooManyEvents(t *testing.T) {
	var lines []string
	for seq := 1; seq <= 40; seq++ {
		lines = append(lines, eventLine(start+seq, api.Pay, seq, 1))
	}
	loan := load(t, withEvents(lines...))
	wantAdd(t, loan, on(50, api.Pay, 1), api.ErrMany)
	wantNoText(t, withEvents(append(lines, eventLine(start+41, api.Pay, 41, 1))...))
	wantNoText(t, withEvents(append(lines, eventLine(start+41, api.Pay, 40, 1))...))
	wantNoText(t, withEvents(append([]string{eventLine(start, api.Pay, 41, 1)}, lines...)...))
}

// A Seq is one of the whole loan, not of a day or a kind.
func TestLoadOfASeqThatIsThere(t *testing.T) {
	load(t, withEvents(eventLine(start, 5, 7, 1), eventLine(start, 5, 8, 1)))
	wantNoText(t, withEvents(eventLine(start, 5, 7, 1), eventLine(start, 5, 7, 1)))
	wantNoText(t, withEvents(eventLine(start, 5, 7, 1), eventLine(start, 5, 7, 2)))
	wantNoText(t, withEvents(eventLine(start, 1, 7, 1), eventLine(start, 5, 7, 1)))
	wantNoText(t, withEvents(eventLine(start, 5, 7, 1), eventLine(start+1, 5, 7, 1)))
	wantNoText(t, withEvents(eventLine(start, 5, 7, 1), eventLine(start+1, 5, 6, 1), eventLine(start+2, 5, 7, 1)))
}

// Of all orders of some events just one is right.
func TestLoadOfEventsOutOfOrder(t *testing.T) {
	for _, events := range [][]api.Event{
		{{Day: start, Kind: 5, Seq: 3, Amount: 1}, {Day: start + 1, Kind: 2, Seq: 2, Amount: 1}, {Day: start + 10, Kind: 1, Seq: 1, Amount: 1}},
		{{Day: start, Kind: 1, Seq: 3, Amount: 9}, {Day: start, Kind: 2, Seq: 2, Amount: 5}, {Day: start, Kind: 5, Seq: 1, Amount: 1}},
		{{Day: start, Kind: 5, Seq: -10, Amount: 9}, {Day: start, Kind: 5, Seq: -9, Amount: 5}, {Day: start, Kind: 5, Seq: 9, Amount: 2}, {Day: start, Kind: 5, Seq: 10, Amount: 1}},
		{{Day: start, Kind: 5, Seq: math.MinInt, Amount: 9}, {Day: start, Kind: 5, Seq: 0, Amount: 5}, {Day: start, Kind: 5, Seq: math.MaxInt, Amount: 1}},
		{{Day: start, Kind: 5, Seq: 1, Amount: 1}, {Day: start + 1, Kind: 1, Seq: 5, Amount: 1}, {Day: start + 1, Kind: 5, Seq: -2, Amount: 1}, {Day: start + 1, Kind: 5, Seq: 2, Amount: 1}},
	} {
		linesOf := func(events []api.Event) (lines []string) {
			for _, e := range events {
				lines = append(lines, eventLine(e.Day, e.Kind, e.Seq, e.Amount))
			}
			return lines
		}
		right := withEvents(linesOf(events)...)
		for _, order := range orders(events) {
			text := withEvents(linesOf(order)...)
			wantLoad(t, text == right, text)
		}
	}
}

func TestLoadAtTheEdgesOfTheLoansDay(t *testing.T) {
	for _, first := range []int{0, start, api.MaxDay - api.MaxSpan} {
		terms := plain
		terms.Start = first
		for _, right := range []int{first, first + 1, first + 3699, first + 3700} {
			loan := load(t, textOf(termsLine(terms), "at "+number(right), "now 0 0 0 0 0 0 0", "end"))
			wantBalance(t, loan, api.Balance{Day: right})
			wantRun(t, loan, right-1, api.ErrDay)
			wantRun(t, loan, first+3701, api.ErrDay)
			run(t, loan, right)
			run(t, loan, first+3700)
		}
		for _, wrong := range []int{first - 1, first + 3701, -1, -first - 1, math.MinInt, math.MaxInt} {
			wantNoText(t, textOf(termsLine(terms), "at "+number(wrong), "now 0 0 0 0 0 0 0", "end"))
		}
	}
}

// What is owed may be any number, and one beyond is none. (The rate too: the next run tells it anew.)
func TestLoadAtTheEdgesOfWhatIsOwed(t *testing.T) {
	for i := range 7 {
		for text, right := range map[string]bool{
			"9223372036854775807": true, "-9223372036854775808": true, "-1": true, "1": true, "100000000001": true, "1000001": true,
			"9223372036854775808": false, "-9223372036854775809": false, "18446744073709551616": false, "-0": false,
		} {
			words := with(strings.Split("now 0 0 0 0 0 0 0", " "), i+1, text)
			wantLoad(t, right, textOf(with(someLines(), 5, strings.Join(words, " "))...))
		}
	}
	const least, greatest = math.MinInt, math.MaxInt
	loan := load(t, textOf(with(someLines(), 5, "now -9223372036854775808 9223372036854775807 -9223372036854775808 9223372036854775807 -9223372036854775808 9223372036854775807 -9223372036854775808")...))
	wantBalance(t, loan, api.Balance{Principal: least, Interest: greatest, Due: least, Late: greatest, Fine: least, Credit: greatest, Rate: least, Day: 36527})
}

// withEntries is a right text of a loan at the third day, but for its entries, maybe.
func withEntries(entries ...string) string {
	lines := append([]string{"loan 36524 36500000 10000 0 1 15", "at 36527", "now 0 0 0 0 0 0 0"}, entries...)
	return textOf(append(lines, "end")...)
}

func entryLine(day, kind, amount int) string {
	return "entry " + number(day) + " " + number(kind) + " " + number(amount)
}

func TestLoadAtTheEdgesOfEntries(t *testing.T) {
	for kind := 1; kind <= 12; kind++ {
		for _, right := range []int{start, start + 1, start + 2} {
			wantBook(t, load(t, withEntries(entryLine(right, kind, 5))), 0, api.Entry{Day: right, Kind: kind, Amount: 5})
		}
		for _, wrong := range []int{start - 1, start + 3, start + 4, 0, -start, math.MinInt, math.MaxInt} {
			wantNoText(t, withEntries(entryLine(wrong, kind, 5)))
		}
		for _, right := range []int{math.MinInt, math.MinInt + 1, -1, 1, 100000000001, math.MaxInt} {
			wantBook(t, load(t, withEntries(entryLine(start, kind, right))), 0, api.Entry{Day: start, Kind: kind, Amount: right})
		}
		wantNoText(t, withEntries(entryLine(start, kind, 0)))
	}
	for _, kind := range []int{0, 13, -1, -12, math.MinInt, math.MaxInt, 1<<32 + 1, 256 + 1} {
		wantNoText(t, withEntries(entryLine(start, kind, 5)))
	}
	for _, amount := range []string{"9223372036854775808", "-9223372036854775809", "-0"} {
		wantNoText(t, withEntries("entry 36524 1 "+amount))
	}
}

// A loan at Start has gone through no day, and so has no entries.
func TestLoadOfEntriesAtStart(t *testing.T) {
	for _, day := range []int{start - 1, start, start + 1} {
		wantNoText(t, textOf("loan 36524 36500000 10000 0 1 15", "at 36524", "now 0 0 0 0 0 0 0", entryLine(day, 1, 5), "end"))
	}
	load(t, textOf("loan 36524 36500000 10000 0 1 15", "at 36525", "now 0 0 0 0 0 0 0", entryLine(start, 1, 5), "end"))
}

// Entries stand in the order of the text: there may be as many as it likes, of any day at any place.
func TestLoadOfManyEntries(t *testing.T) {
	var lines []string
	var want []api.Entry
	for i := range 50000 {
		e := api.Entry{Day: start + i%3, Kind: 1 + i*7%12, Amount: i*1000003%1999 - 999}
		if e.Amount == 0 {
			continue
		}
		lines = append(lines, entryLine(e.Day, e.Kind, e.Amount))
		want = append(want, e)
	}
	loan := load(t, withEntries(lines...))
	wantBook(t, loan, 0, want...)
	wantBook(t, loan, 49000, want[49000:]...)
}
