package hair

import (
	"strconv"
	"strings"

	"wigmaker/api"
)

// Format writes the trimmed bundle as a text (P1.10).
func Format(b api.Bundle) (string, api.Errno) {
	s, e := open(b)
	if e != api.OK {
		return "", e
	}
	t := s.trimmed()
	return "hair" + numbers(t.Right) + " wrong" + numbers(t.Wrong), api.OK
}

// numbers writes a list, with a blank in front of each number.
func numbers(list []int) string {
	text := ""
	for _, n := range list {
		text += " " + strconv.Itoa(n)
	}
	return text
}

// Parse returns the trimmed bundle whose Format is text (P1.10).
func Parse(text string) (api.Bundle, api.Errno) {
	if len(text) > api.MaxText {
		return api.Bundle{}, api.ErrLarge
	}
	b := readLists(text)
	// The reader is lenient: only Format decides what a right text is.
	if back, e := Format(b); e != api.OK || back != text {
		return api.Bundle{}, api.ErrSyntax
	}
	return Trim(b)
}

// readLists reads the numbers before and after the word `wrong`, and leaves
// out all that is not a number.
func readLists(text string) api.Bundle {
	var b api.Bundle
	list := &b.Right
	for _, word := range strings.Split(text, " ") {
		if word == "wrong" {
			list = &b.Wrong
		}
		if n, err := strconv.Atoi(word); err == nil {
			*list = append(*list, n)
		}
	}
	return b
}
