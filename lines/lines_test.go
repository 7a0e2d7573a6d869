package lines

import (
	"math"
	"strings"
	"testing"
)

// room makes places for so many numbers, all 7 at first.
func room(count int) []*int {
	var places []*int
	for range count {
		seven := 7
		places = append(places, &seven)
	}
	return places
}

func TestWrite(t *testing.T) {
	var w Writer
	if got := w.Text(); got != "" {
		t.Errorf("ahead of all lines: %q", got)
	}
	w.Write("none")
	for _, n := range [][]int{{0}, {-1, 10}, {math.MinInt, 0, math.MaxInt}} {
		var numbers []*int
		for i := range n {
			numbers = append(numbers, &n[i])
		}
		w.Write("some", numbers...)
	}
	const want = "none\nsome 0\nsome -1 10\nsome -9223372036854775808 0 9223372036854775807\n"
	if got := w.Text(); got != want {
		t.Errorf("Text = %q, want %q", got, want)
	}
}

func TestReadWhatWasWritten(t *testing.T) {
	r := NewReader("some -9223372036854775808 0 9223372036854775807\nnone\nsome -10\n")
	three, one := room(3), room(1)
	if !r.Read("some", three...) || r.AtEnd() || !r.Read("none") || r.AtEnd() || !r.Read("some", one...) || !r.AtEnd() {
		t.Fatalf("not read to the end: %q is left", r.rest)
	}
	if *three[0] != math.MinInt || *three[1] != 0 || *three[2] != math.MaxInt || *one[0] != -10 {
		t.Errorf("read %d %d %d, %d", *three[0], *three[1], *three[2], *one[0])
	}
}

// What is not of the form is left as it is, and so are the numbers, the ones ahead of the fault too.
func TestReadOfOtherForms(t *testing.T) {
	for _, text := range []string{
		"", "\n", " ", "some", "some 1 2", "some 1\n", "some 1 2 3\n", "some 1 2 \n", "some  1 2\n", "some 1  2\n", " some 1 2\n", "some 1 \n", "some  2\n",
		"some 1 2\r\n", "some\t1 2\n", "some 1\t2\n", "some 1 2\x00\n", "some 1\n2\n", "Some 1 2\n", "som 1 2\n", "somee 1 2\n", "1 2\n", " 1 2\n", "some1 2\n",
		"some 1 02\n", "some 1 00\n", "some 1 -0\n", "some 1 -02\n", "some 1 +2\n", "some 1 --2\n", "some 1 2-\n", "some 1 -\n", "some 1 0x2\n", "some 1 1_0\n", "some 1 2.0\n", "some 1 2e0\n", "some 1 a\n", "some 1 \u0662\n", "some 1 \uff12\n",
		"some 1 9223372036854775808\n", "some 1 -9223372036854775809\n", "some 1 18446744073709551618\n", "some 1 " + strings.Repeat("9", 1000) + "\n", "some 1 " + strings.Repeat("0", 1000) + "2\n",
	} {
		r := NewReader(text)
		places := room(2)
		if r.Read("some", places...) {
			t.Errorf("%q is read as %d %d", text, *places[0], *places[1])
		}
		if r.rest != text || *places[0] != 7 || *places[1] != 7 {
			t.Errorf("of %q there is left %q, with numbers %d %d", text, r.rest, *places[0], *places[1])
		}
	}
}

func TestReadOfAnotherWordFirst(t *testing.T) {
	r := NewReader("some 5\n")
	one := room(1)
	if r.Read("other", one...) || r.Read("some") || r.Read("some", room(2)...) || !r.Read("some", one...) || *one[0] != 5 {
		t.Errorf("a line that was left is not read any more: %q, %d", r.rest, *one[0])
	}
	if r.Read("some", one...) || r.Read("") || !r.AtEnd() {
		t.Errorf("behind the end there is %q", r.rest)
	}
}
