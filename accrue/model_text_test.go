package accrue_test

import (
	"math/big"
	"math/rand"
	"regexp"
	"slices"
	"strings"
	"testing"

	"accrue/accrue"
	"accrue/api"
)

// modelForm is the form of a text, as the document words it.
var modelForm = regexp.MustCompile(strings.ReplaceAll(`\Aloan(?:N){6}\n(?:event(?:N){4}\n)*atN\nnow(?:N){7}\n(?:entry(?:N){3}\n)*end\n\z`, "N", ` (?:0|-?[1-9][0-9]*)`))

// modelText is what a right text tells.
type modelText struct {
	terms   api.Terms
	events  []api.Event
	balance api.Balance
	entries []api.Entry
}

// modelLoad tells whether a text is right, and what it tells.
func modelLoad(text string) (modelText, bool) {
	var m modelText
	if !modelForm.MatchString(text) {
		return m, false
	}
	for _, line := range strings.Split(strings.TrimSuffix(text, "\n"), "\n") {
		words := strings.Fields(line)
		var n []int
		for _, word := range words[1:] {
			number, _ := new(big.Int).SetString(word, 10)
			if !number.IsInt64() {
				return m, false
			}
			n = append(n, int(number.Int64()))
		}
		switch words[0] {
		case "loan":
			m.terms = api.Terms{Start: n[0], Principal: n[1], Rate: n[2], Fine: n[3], Basis: n[4], Due: n[5]}
		case "event":
			m.events = append(m.events, api.Event{Day: n[0], Kind: n[1], Seq: n[2], Amount: n[3]})
		case "at":
			m.balance.Day = n[0]
		case "now":
			m.balance = api.Balance{Principal: n[0], Interest: n[1], Due: n[2], Late: n[3], Fine: n[4], Credit: n[5], Rate: n[6], Day: m.balance.Day}
		case "entry":
			m.entries = append(m.entries, api.Entry{Day: n[0], Kind: n[1], Amount: n[2]})
		}
	}
	return m, m.rightTerms() && m.rightEvents() && m.rightBook()
}

func (m modelText) rightTerms() bool {
	for _, f := range termsFields() {
		if n := *f.of(&m.terms); n < f.least || n > f.greatest {
			return false
		}
	}
	return true
}

func (m modelText) rightEvents() bool {
	seqs := map[int]bool{}
	for i, e := range m.events {
		edge, isKind := amountEdges()[e.Kind]
		if !isKind || e.Amount < edge[0] || e.Amount > edge[1] || e.Day < m.terms.Start || e.Day > m.terms.Start+3700 || seqs[e.Seq] {
			return false
		}
		seqs[e.Seq] = true
		if i > 0 && slices.Compare([]int{e.Day, e.Kind, e.Seq}, []int{m.events[i-1].Day, m.events[i-1].Kind, m.events[i-1].Seq}) <= 0 {
			return false
		}
	}
	return len(m.events) <= 40
}

func (m modelText) rightBook() bool {
	for _, e := range m.entries {
		if e.Day < m.terms.Start || e.Day >= m.balance.Day || e.Kind < 1 || e.Kind > 12 || e.Amount == 0 {
			return false
		}
	}
	return m.balance.Day >= m.terms.Start && m.balance.Day <= m.terms.Start+3700
}

// wantAsModel asks that Load takes a text if it is right, and that the loan tells what it tells.
func wantAsModel(t *testing.T, text string) (*accrue.Loan, modelText) {
	t.Helper()
	m, right := modelLoad(text)
	if !right {
		wantNoText(t, text)
		return nil, m
	}
	loan := load(t, text)
	wantBalance(t, loan, m.balance)
	wantBook(t, loan, 0, m.entries...)
	return loan, m
}

// Each byte of a text left out, told twice, or another one in its place.
func TestTextsBesideARightOne(t *testing.T) {
	right := 0
	text := textOf(someLines()...)
	for i := range len(text) {
		others := []string{text[:i] + text[i+1:], text[:i+1] + text[i:]}
		for b := range 256 {
			others = append(others, text[:i]+string([]byte{byte(b)})+text[i+1:])
		}
		for _, other := range others {
			if loan, _ := wantAsModel(t, other); loan != nil {
				right++
			}
		}
	}
	if right < 500 {
		t.Errorf("only %d texts of these are right", right)
	}
}

// edgyNumbers are such as a text might go wrong by.
func edgyNumbers(terms api.Terms) []string {
	numbers := []string{"9223372036854775807", "-9223372036854775808", "9223372036854775808", "-9223372036854775809", "-0", "00", "+1", ""}
	for _, n := range []int{terms.Start, terms.Start + 3700, 0, 12, 28, 400, 1000000, 100000000000} {
		numbers = append(numbers, number(n-1), number(n), number(n+1))
	}
	return numbers
}

// changedText makes a text of another one, by some changes: of words, of lines.
func changedText(r *rand.Rand, text string, terms api.Terms) string {
	lines := strings.Split(strings.TrimSuffix(text, "\n"), "\n")
	for range 1 + r.Intn(3) {
		i, j := r.Intn(len(lines)), r.Intn(len(lines))
		// Events, and what is ahead of the entries, are few among the lines: they are to be met as often.
		if at := slices.IndexFunc(lines, func(line string) bool { return strings.HasPrefix(line, "now") }); at >= 0 && r.Intn(2) == 0 {
			i, j = r.Intn(at+1), r.Intn(at+1)
		}
		switch r.Intn(10) {
		case 0:
			lines[i], lines[j] = lines[j], lines[i]
		case 1:
			lines = with(lines, i, lines[j], lines[i])
		case 2:
			if len(lines) > 1 {
				lines = with(lines, i)
			}
		default:
			words := strings.Split(lines[i], " ")
			numbers := edgyNumbers(terms)
			words[min(len(words)-1, 1+r.Intn(len(words)))] = numbers[r.Intn(len(numbers))]
			lines[i] = strings.Join(words, " ")
		}
	}
	return textOf(lines...)
}

// Texts of loans that were changed at random: each is taken or refused as the model says, and what was taken is put right by a run as the model says.
func TestChangedTextsAgainstTheModel(t *testing.T) {
	r := rand.New(rand.NewSource(8))
	taken, refused := 0, 0
	for range 300 {
		terms := someTerms(r)
		span := 1 + r.Intn(20)
		events := someEvents(r, terms, span)
		saved := open(t, terms)
		day := toldOnTheWay(t, r, saved, events, terms.Start, terms.Start+span)
		for range 20 {
			text := changedText(r, saved.Save(), terms)
			loan, m := wantAsModel(t, text)
			if loan == nil {
				refused++
				continue
			}
			taken++
			to := min(m.balance.Day+r.Intn(3), m.terms.Start+3700)
			run(t, loan, to)
			wantBook(t, loan, 0, modelBook(m.entries, m.terms, m.events, to)...)
			wantAccountsAgree(t, loan)
			if t.Failed() {
				t.Fatalf("day %d, text %q", day, text)
			}
		}
	}
	if taken < 1000 || refused < 1000 {
		t.Errorf("%d taken, %d refused", taken, refused)
	}
}

// Texts of any bytes, and of pieces of right texts.
func TestLoadOfAnyTexts(t *testing.T) {
	r := rand.New(rand.NewSource(9))
	pieces := append(strings.SplitAfter(textOf(someLines()...), "\n"), "loan", "event", "at", "now", "entry", "end", " ", "\n", "0", "1", "-", "36524")
	for range 20000 {
		bytes := make([]byte, r.Intn(60))
		r.Read(bytes)
		wantAsModel(t, string(bytes))
		text := "loan 36524 36500000 10000 20000 1 15\n"
		for range r.Intn(12) {
			text += pieces[r.Intn(len(pieces))]
		}
		wantAsModel(t, text)
	}
}
