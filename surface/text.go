package surface

import (
	"strconv"
	"strings"

	"wigmaker/api"
)

// Format writes a cap as a text (P2.7).
func Format(c api.Cap) (string, api.Errno) {
	if e := Validate(c); e != api.OK {
		return "", e
	}
	text := line("ease", c.Ease)
	for _, p := range c.Pieces {
		var numbers []int
		for i := range p.Sides {
			numbers = append(numbers, p.Sides[i], p.Angles[i])
		}
		text += line("piece", numbers...)
	}
	for _, s := range c.Seams {
		text += line("seam", s.A, s.I, s.B, s.J)
	}
	return text, api.OK
}

func line(word string, numbers ...int) string {
	for _, n := range numbers {
		word += " " + strconv.Itoa(n)
	}
	return word + "\n"
}

// Parse returns the cap whose Format is text (P2.7).
func Parse(text string) (api.Cap, api.Errno) {
	if len(text) > api.MaxText {
		return api.Cap{}, api.ErrLarge
	}
	c := readLines(text)
	// The reader is lenient: only Format decides what a right text is.
	if back, e := Format(c); e != api.OK || back != text {
		return api.Cap{}, api.ErrSyntax
	}
	return c, api.OK
}

// readLines reads what it understands of the lines of a text, and leaves out
// the rest.
func readLines(text string) api.Cap {
	var c api.Cap
	for _, l := range strings.Split(text, "\n") {
		words := strings.Split(l, " ")
		var numbers []int
		for _, word := range words[1:] {
			n, _ := strconv.Atoi(word)
			numbers = append(numbers, n)
		}
		switch {
		case words[0] == "ease" && len(numbers) == 1:
			c.Ease = numbers[0]
		case words[0] == "piece" && len(numbers)%2 == 0:
			c.Pieces = append(c.Pieces, readPiece(numbers))
		case words[0] == "seam" && len(numbers) == 4:
			c.Seams = append(c.Seams, api.Seam{A: numbers[0], I: numbers[1], B: numbers[2], J: numbers[3]})
		}
	}
	return c
}

// readPiece takes the sides and angles out of a list in which they alternate.
func readPiece(numbers []int) api.Piece {
	var p api.Piece
	for i := 0; i < len(numbers); i += 2 {
		p.Sides = append(p.Sides, numbers[i])
		p.Angles = append(p.Angles, numbers[i+1])
	}
	return p
}
