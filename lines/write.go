// Package lines tells and reads texts of lines: each a word with numbers
// behind it, one blank ahead of each, ended by LF.
package lines

import "strconv"

// Writer makes a text, line by line.
type Writer struct {
	text []byte
}

// Write adds a line. It takes the numbers by their addresses, as Reader.Read
// does: so one list of them serves both ways.
func (w *Writer) Write(word string, numbers ...*int) {
	w.text = append(w.text, word...)
	for _, number := range numbers {
		w.text = append(w.text, ' ')
		w.text = strconv.AppendInt(w.text, int64(*number), 10)
	}
	w.text = append(w.text, '\n')
}

// Text tells all that was written.
func (w *Writer) Text() string {
	return string(w.text)
}
