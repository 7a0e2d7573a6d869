package lines

import (
	"strconv"
	"strings"
)

// Reader goes through a text, line by line.
type Reader struct {
	rest string
}

// NewReader is a reader at the head of a text.
func NewReader(text string) *Reader {
	return &Reader{rest: text}
}

// Read takes the next line, if it is just as Write makes it of this word and
// as many numbers. Else it leaves the line, and the numbers, as they are: the
// line may be one of another word.
func (r *Reader) Read(word string, numbers ...*int) bool {
	line, rest, ended := strings.Cut(r.rest, "\n")
	// One piece more than a right line has words shows that there are too
	// many, without cutting up all of a long line.
	words := strings.SplitN(line, " ", len(numbers)+2)
	if !ended || len(words) != len(numbers)+1 || words[0] != word {
		return false
	}
	read, ok := readNumbers(words[1:])
	if !ok {
		return false
	}
	for i, number := range numbers {
		*number = read[i]
	}
	r.rest = rest
	return true
}

// AtEnd tells whether all of the text was read.
func (r *Reader) AtEnd() bool {
	return r.rest == ""
}

func readNumbers(words []string) ([]int, bool) {
	numbers := make([]int, len(words))
	for i, word := range words {
		number, err := strconv.Atoi(word)
		// Atoi lets pass what Write never makes: `+`, noughts ahead, `-0`.
		if err != nil || strconv.Itoa(number) != word {
			return nil, false
		}
		numbers[i] = number
	}
	return numbers, true
}
