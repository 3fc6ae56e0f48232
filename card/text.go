package card

import (
	"errors"
	"strconv"
	"strings"

	"wigmaker/api"
)

// Write writes a card as lines, in the order of Order (P8.6).
func Write(c []api.Entry) (string, api.Errno) {
	order, e := Order(c)
	if e != api.OK {
		return "", e
	}
	text := ""
	for _, i := range order {
		for _, n := range [5]int{c[i].Place, c[i].Seq, c[i].Seen[0], c[i].Seen[1], c[i].Seen[2]} {
			text += strconv.Itoa(n) + " "
		}
		text += c[i].Text + "\n"
	}
	return text, api.OK
}

// refusal is the error of a line with which a beginning of a text stands for
// no card.
type refusal struct {
	line string
}

func (r refusal) Error() string {
	return "no card with the line " + strconv.Quote(r.line)
}

// Read returns the card that the longest beginning of a text stands for, and
// the rest (P8.6). A beginning that stands for a card does so without its last
// line, too: nothing before that line has seen its entry. So the card can be
// read line by line until one is refused.
func Read(text string) (c []api.Entry, rest string) {
	rest = text
	for {
		longer, behind, err := readLine(c, text, rest)
		var refused refusal
		if errors.As(err, &refused) {
			return c, rest
		}
		c, rest = longer, behind
	}
}

// readLine returns a card with the entry of the next line, and the rest behind
// this line; or a refusal if the text up to there does not stand for the card.
func readLine(c []api.Entry, text, rest string) ([]api.Entry, string, error) {
	line, behind, found := strings.Cut(rest, "\n")
	words := strings.SplitN(line, " ", 6)
	if !found || len(words) < 6 {
		return nil, "", refusal{line}
	}
	var numbers [5]int
	for i := range numbers {
		numbers[i], _ = strconv.Atoi(words[i])
	}
	longer := put(c, api.Entry{Place: numbers[0], Seq: numbers[1], Seen: [3]int{numbers[2], numbers[3], numbers[4]}, Text: words[5]})
	// The reader is lenient: only Write decides what a right text is.
	written, e := Write(longer)
	if e != api.OK || written != text[:len(text)-len(behind)] {
		return nil, "", refusal{line}
	}
	return longer, behind, nil
}
